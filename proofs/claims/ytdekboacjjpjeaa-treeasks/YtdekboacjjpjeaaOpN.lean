
/- Arguments that are rows of nodes, opened. -/
import Derived.Test.YtdekboacjjpjeaaRows
import Derived.Test.YtdekboacjjpjeaaTrR
import Derived.Deep.Slices
import Derived.ProofKit
import Derived.OpenShut
import Derived.ShutString
import Derived.ChangeOld
import Derived.SizedLaws
import Derived.Below
namespace Go.Proofs.Ytdekboacjjpjeaa
open Go.ChangeShapes Go.WideShapes Go.ChangeAt Go.RowKit
set_option linter.unusedSimpArgs false
set_option linter.unusedVariables false
theorem spotN {w : World} {a : Addr} {v : Value} (h : w.cell? (a.add 0) = some v) : a = ⟨a.block, a.off, none⟩ := by
  rw [show a.add 0 = a from by simp [Addr.add]] at h
  unfold World.cell? at h
  split at h
  · obtain ⟨b, o, s⟩ := a
    cases s with
    | none => rfl
    | some x => simp at h
  · cases h
set_option maxRecDepth 100000 in
theorem open_nd {H : Type} {enc : TypeId × Value → H} {W : World} {fuel : Nat} {cs : List Value} {x : DataW H × List MemPlace}
    (h : DataW.trod enc Try.prog W 0 (fun _ => true) true fuel 72 cs = some x) : ∃ y : Nd, cs = ndV y := by
  obtain ⟨xs, n, _, rfl, hl, hlen, hf⟩ := DataW.trod_struct Try.underlying72 h
  have hc : Try.prog.cellsOf 72 = 7 := by kernel_rfl
  have cI : Try.prog.cellsOf 3 = 1 := by kernel_rfl
  have c9 : Try.prog.cellsOf 9 = 1 := by kernel_rfl
  have cB : Try.prog.cellsOf 4 = 1 := by kernel_rfl
  rw [hc] at hl
  have f0 : DataW.trod enc Try.prog W 0 (fun _ => true) true n 9 ((cs.drop 0).take (Try.prog.cellsOf 9)) = xs[0]? := hf 0 _ rfl
  have f1 : DataW.trod enc Try.prog W 0 (fun _ => true) true n 3 ((cs.drop 1).take (Try.prog.cellsOf 3)) = xs[1]? := hf 1 _ rfl
  have f2 : DataW.trod enc Try.prog W 0 (fun _ => true) true n 3 ((cs.drop 2).take (Try.prog.cellsOf 3)) = xs[2]? := hf 2 _ rfl
  have f3 : DataW.trod enc Try.prog W 0 (fun _ => true) true n 3 ((cs.drop 3).take (Try.prog.cellsOf 3)) = xs[3]? := hf 3 _ rfl
  have f4 : DataW.trod enc Try.prog W 0 (fun _ => true) true n 4 ((cs.drop 4).take (Try.prog.cellsOf 4)) = xs[4]? := hf 4 _ rfl
  have f5 : DataW.trod enc Try.prog W 0 (fun _ => true) true n 4 ((cs.drop 5).take (Try.prog.cellsOf 4)) = xs[5]? := hf 5 _ rfl
  have f6 : DataW.trod enc Try.prog W 0 (fun _ => true) true n 4 ((cs.drop 6).take (Try.prog.cellsOf 4)) = xs[6]? := hf 6 _ rfl
  rw [c9] at f0
  rw [cI] at f1 f2 f3
  rw [cB] at f4 f5 f6
  match cs, hl, xs, hlen with
  | [a, b, c, d, e, f, g], _, [y0, y1, y2, y3, y4, y5, y6], _ =>
    simp only [List.drop_zero, List.take_succ_cons, List.take_zero, List.drop_succ_cons, List.getElem?_cons_zero, List.getElem?_cons_succ] at f0 f1 f2 f3 f4 f5 f6
    obtain ⟨s, e0, rfl, _⟩ := DataW.trod_string Try.underlying9 f0
    obtain ⟨n1, e1, rfl, _⟩ := DataW.trod_int Try.underlying3 f1
    obtain ⟨n2, e2, rfl, _⟩ := DataW.trod_int Try.underlying3 f2
    obtain ⟨n3, e3, rfl, _⟩ := DataW.trod_int Try.underlying3 f3
    obtain ⟨n4, e4, rfl⟩ := DataW.trod_bool Try.underlying4 f4
    obtain ⟨n5, e5, rfl⟩ := DataW.trod_bool Try.underlying4 f5
    obtain ⟨n6, e6, rfl⟩ := DataW.trod_bool Try.underlying4 f6
    simp only [List.cons.injEq, and_true] at e0 e1 e2 e3 e4 e5 e6
    subst e0 e1 e2 e3 e4 e5 e6
    exact ⟨(s, (n1, n2, n3), (n4, n5, n6)), rfl⟩
theorem open_nodes {H : Type} {enc : TypeId × Value → H} {W : World} {a : Option Addr} {len cap : Nat} {d : DataW H} {p : List MemPlace}
    (h : DataW.Trod enc Try.prog W 0 (fun _ => true) true 30 (.slice a len cap) d p) : ∃ l, RdNd (fun _ => True) W l (.slice a len cap) := by
  obtain ⟨fuel, hf⟩ := h
  have hc : Try.prog.cellsOf 72 = 7 := by kernel_rfl
  rcases Go.Deep.open_slice Try.underlying30 hf with ⟨hcs, hx⟩ | ⟨x, l, c, m, n, D, Pl, hcs, _, hl, hm, hmc, hx, hel⟩
  · simp [Value.cells] at hcs
    obtain ⟨rfl, rfl, rfl⟩ := hcs
    exact ⟨[], rdK_none _ _ _ _⟩
  · simp [Value.cells] at hcs
    obtain ⟨rfl, rfl, rfl⟩ := hcs
    have hmc' : m = cap := by simpa using hmc
    rw [hc] at hel
    have hall : ∀ i, i < len → ∃ y : Nd, W.cells? 0 (x.add (i * 7)) 7 = some (ndV y) := by
      intro i hi
      obtain ⟨cs', h1, h2⟩ := hel i (by omega)
      obtain ⟨y, rfl⟩ := open_nd h2
      exact ⟨y, h1⟩
    obtain ⟨f, hfy⟩ := Go.Deep.choose_lt (α := Nd) hall
    refine ⟨(List.range len).map f, some x, cap, by simp, by simp; omega, hm, fun i hi => ?_⟩
    have hi' : i < len := by simpa using hi
    obtain ⟨_, _, h0⟩ := World.cells?_some (hfy 0 (by omega))
    obtain ⟨_, _, hcell⟩ := World.cells?_some (hfy i hi')
    have hs : x = ⟨x.block, x.off, none⟩ := by
      have := h0 0 (by omega)
      rw [Nat.zero_mul, show (x.add 0).add 0 = x.add 0 from by simp [Addr.add]] at this
      exact spotN this
    generalize x.block = b at hs
    generalize x.off = off at hs
    subst hs
    have hg : ∀ j u, (ndV (f i))[j]? = some u → W.cell? ⟨b, off + i * 7 + j, none⟩ = some u := fun j u hj => by
      have hj7 : j < 7 := by
        have := (List.getElem?_eq_some_iff.1 hj).1
        simpa [ndV] using this
      have := hcell j hj7
      rw [hj] at this
      rw [add_plain, add_plain] at this
      exact this
    simp only [List.getElem_map, List.getElem_range]
    exact ⟨b, off, ndV (f i), rfl, trivial, World.block_lt_of_cell? W _ (hg 0 _ rfl), rfl, rfl, hg⟩
end Go.Proofs.Ytdekboacjjpjeaa
