
/- Arguments that are trees of nodes, or lists of variables, opened. -/
import Derived.Test.YtiddccohldjjcaaGreatDoorRows
import Derived.Test.YtiddccohldjjcaaGreatDoorExV
import Derived.Deep.Slices
import Derived.ProofKit
import Derived.OpenShut
import Derived.ShutString
import Derived.ChangeOld
import Derived.SizedLaws
import Derived.Below
namespace Go.Proofs.YtiddccohldjjcaaGreatDoor
open Go.ChangeShapes Go.WideShapes Go.ChangeAt Go.RowKit
set_option linter.unusedSimpArgs false
set_option linter.unusedVariables false

theorem half2 (g : Nat) : (g + 2) / 2 = g / 2 + 1 := by omega
theorem pick {α : Type} {p : Nat → α → Prop} : ∀ (n : Nat), (∀ i, i < n → ∃ a, p i a) → ∃ l : List α, l.length = n ∧ ∀ (i : Nat) (h : i < l.length), p i l[i]
  | 0, _ => ⟨[], rfl, fun i h => absurd h (by simp)⟩
  | n + 1, H => by
    obtain ⟨l, hl, hp⟩ := pick n (fun i hi => H i (by omega))
    obtain ⟨a, ha⟩ := H n (by omega)
    refine ⟨l ++ [a], by simp [hl], fun i h => ?_⟩
    rcases Nat.lt_or_ge i l.length with hi | hi
    · rw [List.getElem_append_left hi]; exact hp i hi
    · have : i = n := by simp at h; omega
      subst this
      have e : (l ++ [a])[i]'h = a := by simp [← hl]
      rw [e]; exact ha
set_option maxRecDepth 100000 in
theorem open_node {H : Type} {enc : TypeId × Value → H} {W : World} : ∀ (m fuel : Nat), fuel ≤ m → ∀ {cs : List Value} {x : DataW H × List MemPlace}, DataW.trod enc Tryz.prog W 0 (fun _ => true) true fuel 24 cs = some x →
    ∃ (d : Nat) (t : T d) (c0 c1 c2 c3 : Value), d = fuel / 2 ∧ cs = [c0, c1, c2, c3] ∧ RdT (fun _ => True) W d t (.agg #[c0, c1, c2, c3])
  | 0, fuel, hf, cs, x, h => by
    obtain rfl : fuel = 0 := by omega
    simp [DataW.trod] at h
  | m + 1, fuel, hf, cs, x, h => by
    obtain ⟨xs, n, rfl, rfl, hl, hlen, hfd⟩ := DataW.trod_struct Tryz.underlying24 h
    have hc : Tryz.prog.cellsOf 24 = 4 := by kernel_rfl
    have cI : Tryz.prog.cellsOf 3 = 1 := by kernel_rfl
    have cL : Tryz.prog.cellsOf 2 = 1 := by kernel_rfl
    have c9 : Tryz.prog.cellsOf 9 = 1 := by kernel_rfl
    have cP : Tryz.prog.cellsOf 22 = 1 := by kernel_rfl
    rw [hc] at hl
    have f0 : DataW.trod enc Tryz.prog W 0 (fun _ => true) true n 3 ((cs.drop 0).take (Tryz.prog.cellsOf 3)) = xs[0]? := hfd 0 _ rfl
    have f1 : DataW.trod enc Tryz.prog W 0 (fun _ => true) true n 2 ((cs.drop 1).take (Tryz.prog.cellsOf 2)) = xs[1]? := hfd 1 _ rfl
    have f2 : DataW.trod enc Tryz.prog W 0 (fun _ => true) true n 9 ((cs.drop 2).take (Tryz.prog.cellsOf 9)) = xs[2]? := hfd 2 _ rfl
    have f3 : DataW.trod enc Tryz.prog W 0 (fun _ => true) true n 22 ((cs.drop 3).take (Tryz.prog.cellsOf 22)) = xs[3]? := hfd 3 _ rfl
    rw [cI] at f0
    rw [cL] at f1
    rw [c9] at f2
    rw [cP] at f3
    match cs, hl, xs, hlen with
    | [a, b, c, e], _, [y0, y1, y2, y3], _ =>
      simp only [List.drop_zero, List.take_succ_cons, List.take_zero, List.drop_succ_cons, List.getElem?_cons_zero, List.getElem?_cons_succ] at f0 f1 f2 f3
      obtain ⟨k, e0, rfl, _⟩ := DataW.trod_int Tryz.underlying3 f0
      obtain ⟨nn, e1, rfl, _⟩ := DataW.trod_int Tryz.underlying2 f1
      obtain ⟨s, e2, rfl, _⟩ := DataW.trod_string Tryz.underlying9 f2
      simp only [List.cons.injEq, and_true] at e0 e1 e2
      subst e0 e1 e2
      obtain ⟨g, rfl⟩ : ∃ g, n = g + 1 := by
        cases n with
        | zero => simp [DataW.trod] at f3
        | succ g => exact ⟨g, rfl⟩
      rcases DataW.trod_slice Tryz.underlying22 f3 with ⟨hcs, _⟩ | ⟨ad, len, cap, elems, rest, n', hn', hcs, _, _, hlc, hcm, hel, helt, _, _⟩
      · simp only [List.cons.injEq, and_true] at hcs
        subst hcs
        refine ⟨g / 2 + 1, mkT k nn s [], _, _, _, _, (half2 g).symm, rfl, rdT_mk.2 ⟨_, rfl, none, 0, rfl, by simp, by simp [maxLen], fun _ => rfl, fun x hx => by cases hx⟩⟩
      · obtain rfl : n' = g := by omega
        simp only [List.cons.injEq, and_true] at hcs
        subst hcs
        rw [hc] at helt
        have hall : ∀ i, i < len → ∃ q : T (n' / 2) × Value × Value × Value × Value, W.cells? 0 (ad.add (i * 4)) 4 = some [q.2.1, q.2.2.1, q.2.2.2.1, q.2.2.2.2] ∧ RdT (fun _ => True) W (n' / 2) q.1 (.agg #[q.2.1, q.2.2.1, q.2.2.2.1, q.2.2.2.2]) := by
          intro i hi
          have h1 := helt i hi
          rw [List.getElem?_eq_getElem (by omega)] at h1
          obtain ⟨cs', h2, h3⟩ := Option.bind_eq_some_iff.1 h1
          obtain ⟨d, t, c0, c1, c2, c3, rfl, rfl, hr⟩ := open_node m n' (by omega) h3
          exact ⟨(t, c0, c1, c2, c3), h2, hr⟩
        obtain ⟨l, hll, hfy⟩ := pick len hall
        refine ⟨n' / 2 + 1, mkT k nn s (l.map (fun q => q.1)), _, _, _, _, (half2 n').symm, rfl, rdT_mk.2 ⟨_, rfl, some ad, cap, by simp [hll], by simpa [hll] using hlc, hcm, by simp, ?_⟩⟩
        intro z hz i hi
        obtain rfl := Option.some.inj hz
        have hi' : i < l.length := by simpa using hi
        obtain ⟨g1, g2⟩ := hfy i hi'
        obtain ⟨_, _, hcell⟩ := World.cells?_some g1
        have k0 := hcell 0 (by omega)
        have k1 := hcell 1 (by omega)
        have k2 := hcell 2 (by omega)
        have k3 := hcell 3 (by omega)
        rw [Go.Deep.add_add] at k0 k1 k2 k3
        simp only [Nat.add_zero] at k0
        refine ⟨trivial, (l[i]).2.1, (l[i]).2.2.1, (l[i]).2.2.2.1, (l[i]).2.2.2.2, ?_, by simpa using k0, by simpa using k1, by simpa using k2, by simpa using k3⟩
        simp only [List.getElem_map]
        exact g2

/-- A tree that came in. -/
theorem open_tree {H : Type} {enc : TypeId × Value → H} {W : World} {v : Value} {x : DataW H} {p : List MemPlace} (hv : ∃ cs, v = .agg cs)
    (h : DataW.Trod enc Tryz.prog W 0 (fun _ => true) true 24 v x p) : ∃ (d : Nat) (t : T d), RdT (fun _ => True) W d t v := by
  obtain ⟨cs, rfl⟩ := hv
  obtain ⟨fuel, hf⟩ := h
  obtain ⟨d, t, c0, c1, c2, c3, _, hcs, hr⟩ := open_node fuel fuel (Nat.le_refl _) hf
  refine ⟨d, t, ?_⟩
  have e : cs = #[c0, c1, c2, c3] := by
    have : cs.toList = [c0, c1, c2, c3] := hcs
    exact Array.toList_inj.1 (by rw [this])
  rw [e]
  exact hr
end Go.Proofs.YtiddccohldjjcaaGreatDoor
