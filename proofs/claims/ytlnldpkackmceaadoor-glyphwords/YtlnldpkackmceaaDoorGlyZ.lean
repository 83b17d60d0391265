/- What same answers of words that are alike. -/
import Derived.Test.YtlnldpkackmceaaDoorGlyL
namespace Go.Proofs.YtlnldpkackmceaaDoor
open Go.RowKit Go.Lib
set_option linter.unusedSimpArgs false
set_option linter.unusedVariables false

set_option maxRecDepth 100000 in
set_option maxHeartbeats 1000000 in
theorem sameW_any (v u : Value) (l : List Wd) (w : World) {B B' : Nat} (h : OwnW w B 38 v l) (h' : OwnW w B' 49 u l) (hl : l.length ≤ 3000) :
    Calls Tryd.prog 12 #[v, u] w fun e w' => e = .returned (.bool true) ∧ Below w.heap.size w w' := by
  by_cases hn : l.length = 0
  · have hv : ∃ a cap, v = .slice a 0 cap := by
      rcases h.2 with ⟨h, _⟩ | ⟨g, cap, _, h, _⟩
      · exact ⟨_, _, h⟩
      · exact ⟨_, cap, by rw [h, hn]⟩
    have hu : ∃ a cap, u = .slice a 0 cap := by
      rcases h'.2 with ⟨h, _⟩ | ⟨g, cap, _, h, _⟩
      · exact ⟨_, _, h⟩
      · exact ⟨_, cap, by rw [h, hn]⟩
    obtain ⟨a, cap, rfl⟩ := hv
    obtain ⟨a', cap', rfl⟩ := hu
    clear h h' hn
    go_enter Tryd.func12, Tryd.ntmps12
    go_wp2
    refine wp_loop_rounds 1 ?_
    rw [rounds_succ]
    go_wp2
    go_ret
    exact ⟨rfl, Below.refl _ _⟩
  · obtain ⟨b, cap, rfl, hc, hm, hbl, hcell⟩ := liesW h (by omega)
    obtain ⟨b', cap', rfl, hc', hm', hbl', hcell'⟩ := liesW h' (by omega)
    have HC : Hid (∀ (i : Nat) (hi : i < l.length), w.cell? ⟨b, i * 4, none⟩ = some (.int .i64 ((l[i]).1 : Int)) ∧ w.cell? ⟨b, i * 4 + 1, none⟩ = some (.string (txt (l[i]).2.1)) ∧ w.cell? ⟨b, i * 4 + 2, none⟩ = some (.int .i64 (l[i]).2.2.1) ∧ w.cell? ⟨b, i * 4 + 3, none⟩ = some (.int .i64 (l[i]).2.2.2)) := hcell
    have HC' : Hid (∀ (i : Nat) (hi : i < l.length), w.cell? ⟨b', i * 4, none⟩ = some (.int .i64 ((l[i]).1 : Int)) ∧ w.cell? ⟨b', i * 4 + 1, none⟩ = some (.string (txt (l[i]).2.1)) ∧ w.cell? ⟨b', i * 4 + 2, none⟩ = some (.int .i64 (l[i]).2.2.1) ∧ w.cell? ⟨b', i * 4 + 3, none⟩ = some (.int .i64 (l[i]).2.2.2)) := hcell'
    clear hcell h hn hcell' h'
    unfold maxLen at hm hm'
    go_enter Tryd.func12, Tryd.ntmps12
    go_wp2
    go_loopw [13] (fun i wr => ∃ j : Nat, j ≤ l.length ∧ i = .int .i64 j ∧ Below w.heap.size w wr) (fun i _ => l.length - (RowKit.intOf i).toNat)
    case atStart => exact ⟨0, Nat.zero_le _, rfl, Below.refl _ _⟩
    case round =>
      obtain ⟨j, hj, rfl, hbel⟩ := hrel
      by_cases hlt : j < l.length
      · obtain ⟨e0, e1, e2, e3⟩ := HC.out j hlt
        obtain ⟨f0, f1, f2, f3⟩ := HC'.out j hlt
        obtain ⟨⟨xk, xt, xn, xs⟩, hx⟩ : ∃ x, x = l[j] := ⟨_, rfl⟩
        rw [← hx] at e0 e1 e2 e3 f0 f1 f2 f3
        have c0 := (hbel.cell (p := ⟨b, j * 4, none⟩) hbl).trans e0
        have c1 := (hbel.cell (p := ⟨b, j * 4 + 1, none⟩) hbl).trans e1
        have c2 := (hbel.cell (p := ⟨b, j * 4 + 2, none⟩) hbl).trans e2
        have c3 := (hbel.cell (p := ⟨b, j * 4 + 3, none⟩) hbl).trans e3
        have d0 := (hbel.cell (p := ⟨b', j * 4, none⟩) hbl').trans f0
        have d1 := (hbel.cell (p := ⟨b', j * 4 + 1, none⟩) hbl').trans f1
        have d2 := (hbel.cell (p := ⟨b', j * 4 + 2, none⟩) hbl').trans f2
        have d3 := (hbel.cell (p := ⟨b', j * 4 + 3, none⟩) hbl').trans f3
        have i1 : (j : Int) < (l.length : Int) := by omega
        have i2 : (0 : Int) ≤ (j : Int) := by omega
        clear e0 e1 e2 e3 f0 f1 f2 f3 hx
        go_wp2
        go_quiet (fail)
        go_wp2
        go_roundw
        case rel => exact ⟨j + 1, hlt, by go_num, hbel.trans ⟨rfl, rfl, rfl, Nat.le_refl _, fun _ _ => rfl⟩⟩
        case measure => simp [RowKit.intOf]; omega
      · go_wp2
        go_ret
        exact ⟨rfl, hbel⟩
end Go.Proofs.YtlnldpkackmceaaDoor
