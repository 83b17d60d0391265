/- What few answers. -/
import Derived.Test.YtjbfhpgiobddoaaDoorRows
import Derived.Test.YtjbfhpgiobddoaaDoorExV
namespace Go.Proofs.YtjbfhpgiobddoaaDoor
open Go.RowKit Go.Lib
set_option linter.unusedSimpArgs false
set_option linter.unusedVariables false

/-- Are there few, with short names? -/
def fewS (vs : List Vr) : Bool := decide (vs.length ≤ 200) && vs.all (fun x => decide (x.1.size ≤ 1000))
theorem fewS_true {vs : List Vr} (h1 : vs.length ≤ 200) (h2 : ∀ (i : Nat) (hi : i < vs.length), (vs[i]).1.size ≤ 1000) : fewS vs = true := by
  unfold fewS
  simp only [Bool.and_eq_true, decide_eq_true_eq, List.all_eq_true]
  refine ⟨h1, fun x hx => ?_⟩
  obtain ⟨i, hi, rfl⟩ := List.mem_iff_getElem.1 hx
  exact h2 i hi
theorem fewS_long {vs : List Vr} (h : 200 < vs.length) : fewS vs = false := by unfold fewS; rw [decide_eq_false (by omega)]; rfl
theorem fewS_big {vs : List Vr} {i : Nat} (hi : i < vs.length) (h : 1000 < (vs[i]).1.size) : fewS vs = false := by
  unfold fewS
  have : vs.all (fun x => decide (x.1.size ≤ 1000)) = false := by
    rw [List.all_eq_false]
    exact ⟨vs[i], List.getElem_mem hi, by simp; omega⟩
  rw [this]; simp

set_option maxHeartbeats 1000000 in
theorem few_any {vs : List Vr} {vv : Value} {w : World} (hv : RdV w vv vs) :
    Calls Tryd.prog 14 #[vv] w fun e w' => e = .returned (.bool (fewS vs)) ∧ w = w' := by
  obtain ⟨a, cap, rfl, hlc, hcm, hcell⟩ := hv.form
  obtain ⟨V, hV⟩ : ∃ V, fewS vs = V := ⟨_, rfl⟩
  rw [hV]
  have HV : Hid (fewS vs = V) := hV
  have HC : Hid (∀ (i : Nat) (hi : i < vs.length), ∃ b off, a = some ⟨b, off, none⟩ ∧ b < w.heap.size ∧ w.cell? ⟨b, off + i * 2, none⟩ = some (.string (vs[i]).1) ∧ w.cell? ⟨b, off + i * 2 + 1, none⟩ = some (.int .i64 (vs[i]).2)) := hcell
  clear hcell hv hV
  go_enter Tryd.func14, Tryd.ntmps14
  go_wp2
  go_loop [6] (fun i => ∃ (j : Nat), j ≤ vs.length ∧ j ≤ 200 ∧ i = .int .i64 (j : Int) ∧ Hid (∀ (i : Nat) (hi : i < vs.length), i < j → (vs[i]).1.size ≤ 1000)) (fun i => vs.length - (RowKit.intOf i).toNat)
  case atStart => exact ⟨0, Nat.zero_le _, by omega, rfl, fun i hi h => by omega⟩
  case round =>
    obtain ⟨j, hj, hj2, rfl, hsz⟩ := hrel
    by_cases hlt : j < vs.length
    · have i1 : (j : Int) < (vs.length : Int) := by omega
      have i2 : (0 : Int) ≤ (j : Int) := by omega
      by_cases h200 : j = 200
      · have e1 : (j : Int) ≥ 200 := by omega
        have hF : V = false := by rw [← HV.out]; exact fewS_long (by omega)
        subst hF
        clear h200
        go_wp2
        go_ret
        exact ⟨rfl, rfl⟩
      have e1 : ¬ (j : Int) ≥ 200 := by omega
      obtain ⟨b, off, rfl, hbl, k0, k1⟩ := HC.out j hlt
      obtain ⟨xs, hxs⟩ : ∃ x, (vs[j]).1 = x := ⟨_, rfl⟩
      rw [hxs] at k0
      by_cases hb : 1000 < xs.size
      · have e2 : (xs.size : Int) > 1000 := by omega
        have hF : V = false := by rw [← HV.out]; exact fewS_big hlt (by rw [hxs]; exact hb)
        subst hF
        clear h200 hb hxs
        go_wp2
        go_ret
        exact ⟨rfl, rfl⟩
      · have e2 : ¬ (xs.size : Int) > 1000 := by omega
        have hN : Hid (∀ (i : Nat) (hi : i < vs.length), i < j + 1 → (vs[i]).1.size ≤ 1000) := fun i hi h => by
          rcases Nat.lt_or_ge i j with h2 | h2
          · exact hsz.out i hi h2
          · have : i = j := by omega
            subst this
            rw [hxs]; omega
        clear hb hxs
        go_wp2
        go_round
        case rel => exact ⟨j + 1, hlt, by omega, by go_num, hN⟩
        case measure => simp [RowKit.intOf]; omega
    · have i1 : ¬ (j : Int) < (vs.length : Int) := by omega
      have hF : V = true := by rw [← HV.out]; exact fewS_true (by omega) (fun i hi => hsz.out i hi (by omega))
      subst hF
      go_wp2
      go_ret
      exact ⟨rfl, rfl⟩
end Go.Proofs.YtjbfhpgiobddoaaDoor
