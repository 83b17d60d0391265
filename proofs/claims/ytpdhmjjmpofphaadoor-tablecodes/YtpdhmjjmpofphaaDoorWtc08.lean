import Derived.Test.YtpdhmjjmpofphaaDoorRows
import Derived.Test.YtpdhmjjmpofphaaDoorWtc01
import Derived.Test.YtpdhmjjmpofphaaDoorWtc07
import Derived.Deep.Slices
import Derived.ProofKit
import Derived.OpenShut
import Derived.ShutString
import Derived.ChangeOld
import Derived.SizedLaws
import Derived.Below

/- Arguments that are trees of nodes, or lists of variables, opened. -/
namespace Go.Proofs.YtpdhmjjmpofphaaDoor
open Go.ChangeShapes Go.WideShapes Go.ChangeAt Go.RowKit
set_option linter.unusedSimpArgs false
set_option linter.unusedVariables false
set_option maxRecDepth 100000 in
theorem open_var {H : Type} {enc : TypeId × Value → H} {W : World} {fuel : Nat} {cs : List Value} {x : DataW H × List MemPlace}
    (h : DataW.trod enc Tryd.prog W 0 (fun _ => true) true fuel 29 cs = some x) : ∃ y : Vr, cs = [.string y.1, .int .i64 y.2] := by
  obtain ⟨xs, n, _, rfl, hl, hlen, hf⟩ := DataW.trod_struct Tryd.underlying29 h
  have hc : Tryd.prog.cellsOf 29 = 2 := by kernel_rfl
  have cL : Tryd.prog.cellsOf 2 = 1 := by kernel_rfl
  have c9 : Tryd.prog.cellsOf 9 = 1 := by kernel_rfl
  rw [hc] at hl
  have f0 : DataW.trod enc Tryd.prog W 0 (fun _ => true) true n 9 ((cs.drop 0).take (Tryd.prog.cellsOf 9)) = xs[0]? := hf 0 _ rfl
  have f1 : DataW.trod enc Tryd.prog W 0 (fun _ => true) true n 2 ((cs.drop 1).take (Tryd.prog.cellsOf 2)) = xs[1]? := hf 1 _ rfl
  rw [c9] at f0
  rw [cL] at f1
  match cs, hl, xs, hlen with
  | [a, b], _, [y0, y1], _ =>
    simp only [List.drop_zero, List.take_succ_cons, List.take_zero, List.drop_succ_cons, List.getElem?_cons_zero, List.getElem?_cons_succ] at f0 f1
    obtain ⟨s, e0, rfl, _⟩ := DataW.trod_string Tryd.underlying9 f0
    obtain ⟨n, e1, rfl, _⟩ := DataW.trod_int Tryd.underlying2 f1
    simp only [List.cons.injEq, and_true] at e0 e1
    subst e0 e1
    exact ⟨(s, n), rfl⟩
theorem open_vars {H : Type} {enc : TypeId × Value → H} {W : World} {a : Option Addr} {len cap : Nat} {d : DataW H} {p : List MemPlace}
    (h : DataW.Trod enc Tryd.prog W 0 (fun _ => true) true 25 (.slice a len cap) d p) : ∃ vs, RdV W (.slice a len cap) vs := by
  obtain ⟨fuel, hf⟩ := h
  have hc : Tryd.prog.cellsOf 29 = 2 := by kernel_rfl
  rcases Go.Deep.open_slice Tryd.underlying25 hf with ⟨hcs, hx⟩ | ⟨x, l, c, m, n, D, Pl, hcs, _, hl, hm, hmc, hx, hel⟩
  · simp [Value.cells] at hcs
    obtain ⟨rfl, rfl, rfl⟩ := hcs
    exact ⟨[], none, 0, rfl, by simp, by simp [maxLen], fun _ => rfl, fun x hx => by cases hx⟩
  · simp [Value.cells] at hcs
    obtain ⟨rfl, rfl, rfl⟩ := hcs
    have hmc' : m = cap := by simpa using hmc
    rw [hc] at hel
    have hall : ∀ i, i < len → ∃ y : Vr, W.cells? 0 (x.add (i * 2)) 2 = some [.string y.1, .int .i64 y.2] := by
      intro i hi
      obtain ⟨cs', h1, h2⟩ := hel i (by omega)
      obtain ⟨y, rfl⟩ := open_var h2
      exact ⟨y, h1⟩
    obtain ⟨f, hfy⟩ := Go.Deep.choose_lt (α := Vr) hall
    refine ⟨(List.range len).map f, some x, cap, by simp, by simp; omega, hm, by simp, ?_⟩
    intro z hz i hi
    obtain rfl := Option.some.inj hz
    have hi' : i < len := by simpa using hi
    obtain ⟨_, _, hcell⟩ := World.cells?_some (hfy i hi')
    have k0 := hcell 0 (by omega)
    have k1 := hcell 1 (by omega)
    rw [Go.Deep.add_add] at k0 k1
    simp only [List.getElem_map, List.getElem_range]
    simp only [Nat.add_zero] at k0
    exact ⟨by simpa using k0, by simpa using k1⟩
end Go.Proofs.YtpdhmjjmpofphaaDoor
