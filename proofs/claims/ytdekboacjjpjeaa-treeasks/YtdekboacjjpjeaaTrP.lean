
/- What the program's nested and placed answer. -/
import Derived.Test.YtdekboacjjpjeaaTrR
namespace Go.Proofs.Ytdekboacjjpjeaa
open Go.RowKit Go.Lib
set_option linter.unusedSimpArgs false
set_option linter.unusedVariables false
attribute [local go_sem ↓] Go.wp_at_zero Go.wp_at_succ

theorem nst_succ {D : Nat → Int} {j : Nat} {m : Int} (h : nst D j) (hm : (j = 0 ∧ m = 0) ∨ (0 < j ∧ m = D (j - 1) + 1)) : nst D (j + 1) ↔ (0 ≤ D j ∧ D j ≤ m) := by
  constructor
  · intro h2
    have := h2 j (by omega)
    rcases hm with ⟨rfl, rfl⟩ | ⟨h0, rfl⟩
    · exact ⟨this.1, this.2.1 rfl⟩
    · exact ⟨this.1, this.2.2 h0⟩
  · rintro ⟨h1, h2⟩ i hi
    rcases Nat.lt_or_ge i j with h3 | h3
    · exact h i h3
    · have : i = j := by omega
      subst this
      rcases hm with ⟨rfl, rfl⟩ | ⟨h0, rfl⟩
      · exact ⟨h1, fun _ => h2, fun h => by omega⟩
      · exact ⟨h1, fun h => by omega, fun _ => h2⟩
theorem nst_le {D : Nat → Int} {j n : Nat} (h : nst D n) (hj : j ≤ n) : nst D j := fun i hi => h i (by omega)
set_option maxRecDepth 100000 in
set_option maxHeartbeats 4000000 in
theorem nested_any {ok : Nat → Prop} {w : World} {l : List Nd} {v : Value} (h : RdNd ok w l v) (h40 : l.length ≤ 40) :
    Calls Try.prog 33 #[v] w fun e w' => e = .returned (.bool (nsB l)) ∧ Below w.heap.size w w' := by
  obtain ⟨a, cap, rfl, hlc, hcm⟩ := h.form
  unfold maxLen at hcm
  obtain ⟨V, hV⟩ : ∃ V, nsB l = V := ⟨_, rfl⟩
  rw [hV]
  have HV : Hid (nsB l = V) := hV
  have HC := hidOf h
  obtain ⟨n, hn⟩ : ∃ n, l.length = n := ⟨_, rfl⟩
  rw [hn] at hlc h40 ⊢
  have HN : Hid (l.length = n) := hn
  clear h hV hn
  go_enter Try.func33, Try.ntmps33
  go_wp2
  go_loopw [3, 8] (fun mo ix wr => ∃ (j : Nat) (m : Int), j ≤ n ∧ ix = .int .i64 (j : Int) ∧ mo = .int .i64 m ∧ 0 ≤ m ∧ m ≤ j ∧ Hid (nst (nD l) j ∧ ((j = 0 ∧ m = 0) ∨ (0 < j ∧ m = nD l (j - 1) + 1))) ∧ Below w.heap.size w wr) (fun _ ix _ => n - (RowKit.intOf ix).toNat)
  case atStart => exact ⟨0, 0, Nat.zero_le _, rfl, rfl, by omega, by omega, ⟨fun i hi => by omega, .inl ⟨rfl, rfl⟩⟩, Below.refl _ _⟩
  case round =>
    obtain ⟨j, m, hj, rfl, rfl, hm0, hmj, HI, hb⟩ := hrel
    by_cases hlt : j < n
    · obtain ⟨b, off, rfl, hbl, c0, c1, c2, c3, c4, c5, c6⟩ := nd_at HC.out j (by rw [HN.out]; exact hlt)
      replace c0 := (hb.cell (p := ⟨b, off + j * 7, none⟩) hbl).trans c0
      replace c1 := (hb.cell (p := ⟨b, off + j * 7 + 1, none⟩) hbl).trans c1
      replace c2 := (hb.cell (p := ⟨b, off + j * 7 + 2, none⟩) hbl).trans c2
      replace c3 := (hb.cell (p := ⟨b, off + j * 7 + 3, none⟩) hbl).trans c3
      replace c4 := (hb.cell (p := ⟨b, off + j * 7 + 4, none⟩) hbl).trans c4
      replace c5 := (hb.cell (p := ⟨b, off + j * 7 + 5, none⟩) hbl).trans c5
      replace c6 := (hb.cell (p := ⟨b, off + j * 7 + 6, none⟩) hbl).trans c6
      obtain ⟨d, hd⟩ : ∃ d, nD l j = d := ⟨_, rfl⟩
      rw [hd] at c2
      have HS : Hid (nst (nD l) (j + 1) ↔ (0 ≤ d ∧ d ≤ m)) := by rw [← hd]; exact nst_succ HI.out.1 HI.out.2
      have HD : Hid (nD l j = d) := hd
      generalize (nAt l j).1 = x0 at c0
      generalize nP l j = x1 at c1
      generalize nB l j = x3 at c3
      generalize (nAt l j).2.2.1 = x4 at c4
      generalize (nAt l j).2.2.2.1 = x5 at c5
      generalize nL l j = x6 at c6
      clear hd
      have i1 : (j : Int) < (n : Int) := by omega
      have i2 : (0 : Int) ≤ (j : Int) := by omega
      have hb1 := hb.alloc hb.size (.cells #[.string x0, .int .i64 x1, .int .i64 d, .int .i64 x3, .bool x4, .bool x5, .bool x6] 70)
      have hF : (d < 0 ∨ m < d) → V = false := fun h => by
        rw [← HV.out]
        unfold nsB
        rw [decide_eq_false]
        intro h2
        have := HS.out.1 (nst_le h2 (by rw [HN.out]; omega))
        omega
      by_cases hd0 : d < 0
      · have hF := hF (.inl hd0)
        subst hF
        go_wp2
        go_ret
        exact ⟨rfl, hb1⟩
      by_cases hdm : m < d
      · have hF := hF (.inr hdm)
        subst hF
        go_wp2
        go_ret
        exact ⟨rfl, hb1⟩
      clear hF
      have hd1 : 0 ≤ d := by omega
      have hd2 : d ≤ m := by omega
      go_wp2
      go_roundw
      case rel => exact ⟨j + 1, d + 1, hlt, by go_num, rfl, by omega, by omega, ⟨HS.out.2 ⟨hd1, hd2⟩, .inr ⟨by omega, by rw [Nat.add_sub_cancel, HD.out]⟩⟩, hb1⟩
      case measure => simp [RowKit.intOf]; omega
    · have i1 : ¬ (j : Int) < (n : Int) := by omega
      have hT : V = true := by
        rw [← HV.out]
        unfold nsB
        rw [decide_eq_true]
        rw [HN.out]
        have : j = n := by omega
        rw [← this]
        exact HI.out.1
      subst hT
      go_wp2
      go_ret
      exact ⟨rfl, hb⟩
end Go.Proofs.Ytdekboacjjpjeaa
