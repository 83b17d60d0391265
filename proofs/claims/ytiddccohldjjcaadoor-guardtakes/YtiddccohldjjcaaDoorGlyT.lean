
/- What the program's signSize does. -/
import Derived.Test.YtiddccohldjjcaaDoorGlyO
namespace Go.Proofs.YtiddccohldjjcaaDoor
open Go.RowKit Go.Lib
set_option linter.unusedSimpArgs false
set_option linter.unusedVariables false

set_option maxHeartbeats 2000000 in
theorem pSign_one (s : ByteArray) (w : World) (c : UInt8) (h0 : 0 < s.size) (h1 : ¬ 1 < s.size) (hs0 : s[0] = c) (G : Nat) (hg : one (c.toNat : Int) = G) :
    Calls Tryd.prog 51 #[.string s] w fun e w' => e = .returned (.int .i64 (G : Int)) ∧ w = w' := by
  have hz : (0 : Int) < (s.size : Int) := by omega
  have hz1 : ¬ (1 : Int) < (s.size : Int) := by omega
  by_cases f0 : c.toNat = 123
  · have g0 : ((c.toNat : Int) == 123) = true := by simp; omega
    have hG : 1 = G := by rw [← hg]; exact (one_yes (by omega)).symm
    clear f0 hg
    subst hG
    go_enter Tryd.func51, Tryd.ntmps51
    go_wp2
    go_ret
    exact ⟨rfl, rfl⟩
  have g0 : ((c.toNat : Int) == 123) = false := beq_eq_false_iff_ne.2 (by omega)
  by_cases f1 : c.toNat = 125
  · have g1 : ((c.toNat : Int) == 125) = true := by simp; omega
    have hG : 1 = G := by rw [← hg]; exact (one_yes (by omega)).symm
    clear f1 hg f0
    subst hG
    go_enter Tryd.func51, Tryd.ntmps51
    go_wp2
    go_ret
    exact ⟨rfl, rfl⟩
  have g1 : ((c.toNat : Int) == 125) = false := beq_eq_false_iff_ne.2 (by omega)
  by_cases f2 : c.toNat = 40
  · have g2 : ((c.toNat : Int) == 40) = true := by simp; omega
    have hG : 1 = G := by rw [← hg]; exact (one_yes (by omega)).symm
    clear f2 hg f0 f1
    subst hG
    go_enter Tryd.func51, Tryd.ntmps51
    go_wp2
    go_ret
    exact ⟨rfl, rfl⟩
  have g2 : ((c.toNat : Int) == 40) = false := beq_eq_false_iff_ne.2 (by omega)
  by_cases f3 : c.toNat = 41
  · have g3 : ((c.toNat : Int) == 41) = true := by simp; omega
    have hG : 1 = G := by rw [← hg]; exact (one_yes (by omega)).symm
    clear f3 hg f0 f1 f2
    subst hG
    go_enter Tryd.func51, Tryd.ntmps51
    go_wp2
    go_ret
    exact ⟨rfl, rfl⟩
  have g3 : ((c.toNat : Int) == 41) = false := beq_eq_false_iff_ne.2 (by omega)
  by_cases f4 : c.toNat = 61
  · have g4 : ((c.toNat : Int) == 61) = true := by simp; omega
    have hG : 1 = G := by rw [← hg]; exact (one_yes (by omega)).symm
    clear f4 hg f0 f1 f2 f3
    subst hG
    go_enter Tryd.func51, Tryd.ntmps51
    go_wp2
    go_ret
    exact ⟨rfl, rfl⟩
  have g4 : ((c.toNat : Int) == 61) = false := beq_eq_false_iff_ne.2 (by omega)
  by_cases f5 : c.toNat = 33
  · have g5 : ((c.toNat : Int) == 33) = true := by simp; omega
    have hG : 1 = G := by rw [← hg]; exact (one_yes (by omega)).symm
    clear f5 hg f0 f1 f2 f3 f4
    subst hG
    go_enter Tryd.func51, Tryd.ntmps51
    go_wp2
    go_ret
    exact ⟨rfl, rfl⟩
  have g5 : ((c.toNat : Int) == 33) = false := beq_eq_false_iff_ne.2 (by omega)
  by_cases f6 : c.toNat = 60
  · have g6 : ((c.toNat : Int) == 60) = true := by simp; omega
    have hG : 1 = G := by rw [← hg]; exact (one_yes (by omega)).symm
    clear f6 hg f0 f1 f2 f3 f4 f5
    subst hG
    go_enter Tryd.func51, Tryd.ntmps51
    go_wp2
    go_ret
    exact ⟨rfl, rfl⟩
  have g6 : ((c.toNat : Int) == 60) = false := beq_eq_false_iff_ne.2 (by omega)
  by_cases f7 : c.toNat = 43
  · have g7 : ((c.toNat : Int) == 43) = true := by simp; omega
    have hG : 1 = G := by rw [← hg]; exact (one_yes (by omega)).symm
    clear f7 hg f0 f1 f2 f3 f4 f5 f6
    subst hG
    go_enter Tryd.func51, Tryd.ntmps51
    go_wp2
    go_ret
    exact ⟨rfl, rfl⟩
  have g7 : ((c.toNat : Int) == 43) = false := beq_eq_false_iff_ne.2 (by omega)
  by_cases f8 : c.toNat = 45
  · have g8 : ((c.toNat : Int) == 45) = true := by simp; omega
    have hG : 1 = G := by rw [← hg]; exact (one_yes (by omega)).symm
    clear f8 hg f0 f1 f2 f3 f4 f5 f6 f7
    subst hG
    go_enter Tryd.func51, Tryd.ntmps51
    go_wp2
    go_ret
    exact ⟨rfl, rfl⟩
  have g8 : ((c.toNat : Int) == 45) = false := beq_eq_false_iff_ne.2 (by omega)
  by_cases f9 : c.toNat = 42
  · have g9 : ((c.toNat : Int) == 42) = true := by simp; omega
    have hG : 1 = G := by rw [← hg]; exact (one_yes (by omega)).symm
    clear f9 hg f0 f1 f2 f3 f4 f5 f6 f7 f8
    subst hG
    go_enter Tryd.func51, Tryd.ntmps51
    go_wp2
    go_ret
    exact ⟨rfl, rfl⟩
  have g9 : ((c.toNat : Int) == 42) = false := beq_eq_false_iff_ne.2 (by omega)
  have hG : 0 = G := by rw [← hg]; exact (one_no (by omega)).symm
  clear hg f0 f1 f2 f3 f4 f5 f6 f7 f8 f9
  subst hG
  go_enter Tryd.func51, Tryd.ntmps51
  go_wp2
  go_ret
  exact ⟨rfl, rfl⟩

set_option maxHeartbeats 2000000 in
theorem pSign_two (s : ByteArray) (w : World) (c : UInt8) (h1 : 1 < s.size) (hs0 : s[0] = c) (G : Nat) (hg : one (c.toNat : Int) = G)
    (p0 : ((s.extract 0 2).toList == [61, 61]) = false)
    (p1 : ((s.extract 0 2).toList == [33, 61]) = false)
    (p2 : ((s.extract 0 2).toList == [60, 61]) = false)
    (p3 : ((s.extract 0 2).toList == [38, 38]) = false)
    (p4 : ((s.extract 0 2).toList == [124, 124]) = false)
    : Calls Tryd.prog 51 #[.string s] w fun e w' => e = .returned (.int .i64 (G : Int)) ∧ w = w' := by
  have hz : (0 : Int) < (s.size : Int) := by omega
  have hz1 : (1 : Int) < (s.size : Int) := by omega
  have hz2 : (2 : Int) ≤ (s.size : Int) := by omega
  by_cases f0 : c.toNat = 123
  · have g0 : ((c.toNat : Int) == 123) = true := by simp; omega
    have hG : 1 = G := by rw [← hg]; exact (one_yes (by omega)).symm
    clear f0 hg
    subst hG
    go_enter Tryd.func51, Tryd.ntmps51
    go_wp2
    go_ret
    exact ⟨rfl, rfl⟩
  have g0 : ((c.toNat : Int) == 123) = false := beq_eq_false_iff_ne.2 (by omega)
  by_cases f1 : c.toNat = 125
  · have g1 : ((c.toNat : Int) == 125) = true := by simp; omega
    have hG : 1 = G := by rw [← hg]; exact (one_yes (by omega)).symm
    clear f1 hg f0
    subst hG
    go_enter Tryd.func51, Tryd.ntmps51
    go_wp2
    go_ret
    exact ⟨rfl, rfl⟩
  have g1 : ((c.toNat : Int) == 125) = false := beq_eq_false_iff_ne.2 (by omega)
  by_cases f2 : c.toNat = 40
  · have g2 : ((c.toNat : Int) == 40) = true := by simp; omega
    have hG : 1 = G := by rw [← hg]; exact (one_yes (by omega)).symm
    clear f2 hg f0 f1
    subst hG
    go_enter Tryd.func51, Tryd.ntmps51
    go_wp2
    go_ret
    exact ⟨rfl, rfl⟩
  have g2 : ((c.toNat : Int) == 40) = false := beq_eq_false_iff_ne.2 (by omega)
  by_cases f3 : c.toNat = 41
  · have g3 : ((c.toNat : Int) == 41) = true := by simp; omega
    have hG : 1 = G := by rw [← hg]; exact (one_yes (by omega)).symm
    clear f3 hg f0 f1 f2
    subst hG
    go_enter Tryd.func51, Tryd.ntmps51
    go_wp2
    go_ret
    exact ⟨rfl, rfl⟩
  have g3 : ((c.toNat : Int) == 41) = false := beq_eq_false_iff_ne.2 (by omega)
  by_cases f4 : c.toNat = 61
  · have g4 : ((c.toNat : Int) == 61) = true := by simp; omega
    have hG : 1 = G := by rw [← hg]; exact (one_yes (by omega)).symm
    clear f4 hg f0 f1 f2 f3
    subst hG
    go_enter Tryd.func51, Tryd.ntmps51
    go_wp2
    go_ret
    exact ⟨rfl, rfl⟩
  have g4 : ((c.toNat : Int) == 61) = false := beq_eq_false_iff_ne.2 (by omega)
  by_cases f5 : c.toNat = 33
  · have g5 : ((c.toNat : Int) == 33) = true := by simp; omega
    have hG : 1 = G := by rw [← hg]; exact (one_yes (by omega)).symm
    clear f5 hg f0 f1 f2 f3 f4
    subst hG
    go_enter Tryd.func51, Tryd.ntmps51
    go_wp2
    go_ret
    exact ⟨rfl, rfl⟩
  have g5 : ((c.toNat : Int) == 33) = false := beq_eq_false_iff_ne.2 (by omega)
  by_cases f6 : c.toNat = 60
  · have g6 : ((c.toNat : Int) == 60) = true := by simp; omega
    have hG : 1 = G := by rw [← hg]; exact (one_yes (by omega)).symm
    clear f6 hg f0 f1 f2 f3 f4 f5
    subst hG
    go_enter Tryd.func51, Tryd.ntmps51
    go_wp2
    go_ret
    exact ⟨rfl, rfl⟩
  have g6 : ((c.toNat : Int) == 60) = false := beq_eq_false_iff_ne.2 (by omega)
  by_cases f7 : c.toNat = 43
  · have g7 : ((c.toNat : Int) == 43) = true := by simp; omega
    have hG : 1 = G := by rw [← hg]; exact (one_yes (by omega)).symm
    clear f7 hg f0 f1 f2 f3 f4 f5 f6
    subst hG
    go_enter Tryd.func51, Tryd.ntmps51
    go_wp2
    go_ret
    exact ⟨rfl, rfl⟩
  have g7 : ((c.toNat : Int) == 43) = false := beq_eq_false_iff_ne.2 (by omega)
  by_cases f8 : c.toNat = 45
  · have g8 : ((c.toNat : Int) == 45) = true := by simp; omega
    have hG : 1 = G := by rw [← hg]; exact (one_yes (by omega)).symm
    clear f8 hg f0 f1 f2 f3 f4 f5 f6 f7
    subst hG
    go_enter Tryd.func51, Tryd.ntmps51
    go_wp2
    go_ret
    exact ⟨rfl, rfl⟩
  have g8 : ((c.toNat : Int) == 45) = false := beq_eq_false_iff_ne.2 (by omega)
  by_cases f9 : c.toNat = 42
  · have g9 : ((c.toNat : Int) == 42) = true := by simp; omega
    have hG : 1 = G := by rw [← hg]; exact (one_yes (by omega)).symm
    clear f9 hg f0 f1 f2 f3 f4 f5 f6 f7 f8
    subst hG
    go_enter Tryd.func51, Tryd.ntmps51
    go_wp2
    go_ret
    exact ⟨rfl, rfl⟩
  have g9 : ((c.toNat : Int) == 42) = false := beq_eq_false_iff_ne.2 (by omega)
  have hG : 0 = G := by rw [← hg]; exact (one_no (by omega)).symm
  clear hg f0 f1 f2 f3 f4 f5 f6 f7 f8 f9
  subst hG
  go_enter Tryd.func51, Tryd.ntmps51
  go_wp2
  go_ret
  exact ⟨rfl, rfl⟩

set_option maxHeartbeats 2000000 in
theorem pSign_any (s : ByteArray) (w : World) (h0 : 0 < s.size) :
    Calls Tryd.prog 51 #[.string s] w fun e w' => e = .returned (.int .i64 (sgn (runes (bl s)) : Int)) ∧ w = w' := by
  have hlen : (bl s).length = s.size := rfl
  by_cases h1 : 1 < s.size
  · obtain ⟨c, d, r, hl⟩ : ∃ c d r, bl s = c :: d :: r := by
      match hb : bl s with
      | [] => rw [hb] at hlen; simp at hlen; omega
      | [_] => rw [hb] at hlen; simp at hlen; omega
      | c :: d :: r => exact ⟨c, d, r, rfl⟩
    have hs0 : s[0] = c := by
      have : s[0] = (bl s)[0]'(by omega) := rfl
      rw [this]; simp [hl]
    have hq : ∀ x y : UInt8, ((s.extract 0 2).toList == [x, y]) = (decide (c = x) && decide (d = y)) := fun x y => two_beq s c d x y r hl
    rw [hl, sgn_two]
    have hz : (0 : Int) < (s.size : Int) := by omega
    have hz1 : (1 : Int) < (s.size : Int) := by omega
    have hz2 : (2 : Int) ≤ (s.size : Int) := by omega
    by_cases a0 : c = 61 ∧ d = 61
    · have p0 : ((s.extract 0 2).toList == [61, 61]) = true := by rw [hq]; simp [a0.1, a0.2]
      have hG : (if pair (c.toNat : Int) (d.toNat : Int) = true then 2 else one (c.toNat : Int)) = 2 := by rw [a0.1, a0.2]; decide
      rw [hG]
      clear hq a0 hG
      go_enter Tryd.func51, Tryd.ntmps51
      go_wp2
      go_ret
      exact ⟨rfl, rfl⟩
    have p0 : ((s.extract 0 2).toList == [61, 61]) = false := by rw [hq]; exact and_no a0
    by_cases a1 : c = 33 ∧ d = 61
    · have p1 : ((s.extract 0 2).toList == [33, 61]) = true := by rw [hq]; simp [a1.1, a1.2]
      have hG : (if pair (c.toNat : Int) (d.toNat : Int) = true then 2 else one (c.toNat : Int)) = 2 := by rw [a1.1, a1.2]; decide
      rw [hG]
      clear hq a1 hG a0
      go_enter Tryd.func51, Tryd.ntmps51
      go_wp2
      go_ret
      exact ⟨rfl, rfl⟩
    have p1 : ((s.extract 0 2).toList == [33, 61]) = false := by rw [hq]; exact and_no a1
    by_cases a2 : c = 60 ∧ d = 61
    · have p2 : ((s.extract 0 2).toList == [60, 61]) = true := by rw [hq]; simp [a2.1, a2.2]
      have hG : (if pair (c.toNat : Int) (d.toNat : Int) = true then 2 else one (c.toNat : Int)) = 2 := by rw [a2.1, a2.2]; decide
      rw [hG]
      clear hq a2 hG a0 a1
      go_enter Tryd.func51, Tryd.ntmps51
      go_wp2
      go_ret
      exact ⟨rfl, rfl⟩
    have p2 : ((s.extract 0 2).toList == [60, 61]) = false := by rw [hq]; exact and_no a2
    by_cases a3 : c = 38 ∧ d = 38
    · have p3 : ((s.extract 0 2).toList == [38, 38]) = true := by rw [hq]; simp [a3.1, a3.2]
      have hG : (if pair (c.toNat : Int) (d.toNat : Int) = true then 2 else one (c.toNat : Int)) = 2 := by rw [a3.1, a3.2]; decide
      rw [hG]
      clear hq a3 hG a0 a1 a2
      go_enter Tryd.func51, Tryd.ntmps51
      go_wp2
      go_ret
      exact ⟨rfl, rfl⟩
    have p3 : ((s.extract 0 2).toList == [38, 38]) = false := by rw [hq]; exact and_no a3
    by_cases a4 : c = 124 ∧ d = 124
    · have p4 : ((s.extract 0 2).toList == [124, 124]) = true := by rw [hq]; simp [a4.1, a4.2]
      have hG : (if pair (c.toNat : Int) (d.toNat : Int) = true then 2 else one (c.toNat : Int)) = 2 := by rw [a4.1, a4.2]; decide
      rw [hG]
      clear hq a4 hG a0 a1 a2 a3
      go_enter Tryd.func51, Tryd.ntmps51
      go_wp2
      go_ret
      exact ⟨rfl, rfl⟩
    have p4 : ((s.extract 0 2).toList == [124, 124]) = false := by rw [hq]; exact and_no a4
    have hp : pair (c.toNat : Int) (d.toNat : Int) = false := by
      have hi : ∀ (x : UInt8) (k : Nat), (k : Int) = (x.toNat : Int) → x = UInt8.ofNat k := fun x k h => by
        have e : k = x.toNat := by omega
        rw [e]; simp
      refine decide_eq_false ?_
      rintro (⟨hb, ha⟩ | ⟨ha, hb⟩ | ⟨ha, hb⟩)
      · rcases ha with ha | ha | ha
        · exact a0 ⟨hi c 61 ha.symm, hi d 61 hb.symm⟩
        · exact a1 ⟨hi c 33 ha.symm, hi d 61 hb.symm⟩
        · exact a2 ⟨hi c 60 ha.symm, hi d 61 hb.symm⟩
      · exact a3 ⟨hi c 38 ha.symm, hi d 38 hb.symm⟩
      · exact a4 ⟨hi c 124 ha.symm, hi d 124 hb.symm⟩
    have hG : (if pair (c.toNat : Int) (d.toNat : Int) = true then 2 else one (c.toNat : Int)) = one (c.toNat : Int) := by rw [hp]; rfl
    rw [hG]
    exact pSign_two s w c h1 hs0 _ rfl p0 p1 p2 p3 p4
  · obtain ⟨c, hl⟩ : ∃ c, bl s = [c] := by
      match hb : bl s with
      | [] => rw [hb] at hlen; simp at hlen; omega
      | [c] => exact ⟨c, rfl⟩
      | _ :: _ :: _ => rw [hb] at hlen; simp at hlen; omega
    have hs0 : s[0] = c := by
      have : s[0] = (bl s)[0]'(by omega) := rfl
      rw [this]; simp [hl]
    rw [hl, sgn_one]
    exact pSign_one s w c h0 h1 hs0 _ rfl
end Go.Proofs.YtiddccohldjjcaaDoor
