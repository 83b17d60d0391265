/- An argument that is a slice of items, opened: the items that it reads as, and how many values and letters they are. -/
import Derived.Test.YtdbfblkdjijmmaaRows
import Derived.Test.YtdbfblkdjijmmaaLItems
import Derived.Test.YtdbfblkdjijmmaaOpen
import Derived.Test.YtdbfblkdjijmmaaBulk
import Derived.Deep.Slices
namespace Go.Proofs.Ytdbfblkdjijmmaa
open Go.RowKit
set_option linter.unusedSimpArgs false
set_option linter.unusedVariables false

theorem i64_of_wf {n : Int} (h : (Lit.int .i64 n).wf = true) : -9223372036854775808 ≤ n ∧ n ≤ 9223372036854775807 := by
  simpa [Lit.wf, IntKind.min, IntKind.max, IntKind.signed, IntKind.bits] using h

/-- One item, read. -/
theorem open_item {H : Type} {enc : TypeId × Value → H} {W : World} {fuel : Nat} {cs : List Value} {x : DataW H × List MemPlace}
    (h : DataW.trod enc Try.prog W 0 (fun _ => true) true fuel 55 cs = some x) :
    ∃ y : It, cs = [.bool y.1, .int .i64 y.2.1, .string y.2.2] ∧ small y ∧ y.2.2.size + 1 ≤ Rows.uptoBulk x.1 := by
  obtain ⟨xs, n, _, rfl, hl, hlen, hf⟩ := DataW.trod_struct Try.underlying55 h
  have hc : Try.prog.cellsOf 55 = 3 := by kernel_rfl
  have c4 : Try.prog.cellsOf 4 = 1 := by kernel_rfl
  have c2 : Try.prog.cellsOf 2 = 1 := by kernel_rfl
  have c9 : Try.prog.cellsOf 9 = 1 := by kernel_rfl
  rw [hc] at hl
  have f0 : DataW.trod enc Try.prog W 0 (fun _ => true) true n 4 ((cs.drop 0).take (Try.prog.cellsOf 4)) = xs[0]? := hf 0 _ rfl
  have f1 : DataW.trod enc Try.prog W 0 (fun _ => true) true n 2 ((cs.drop 1).take (Try.prog.cellsOf 2)) = xs[1]? := hf 1 _ rfl
  have f2 : DataW.trod enc Try.prog W 0 (fun _ => true) true n 9 ((cs.drop 2).take (Try.prog.cellsOf 9)) = xs[2]? := hf 2 _ rfl
  rw [c4] at f0
  rw [c2] at f1
  rw [c9] at f2
  match cs, hl, xs, hlen with
  | [a, b, c], _, [y0, y1, y2], _ =>
    simp only [List.drop_zero, List.take_succ_cons, List.take_zero, List.drop_succ_cons, List.getElem?_cons_zero, List.getElem?_cons_succ] at f0 f1 f2
    obtain ⟨t, e0, rfl⟩ := DataW.trod_bool Try.underlying4 f0
    obtain ⟨n, e1, rfl, hw⟩ := DataW.trod_int Try.underlying2 f1
    obtain ⟨s, e2, rfl, hs⟩ := DataW.trod_string Try.underlying9 f2
    simp only [List.cons.injEq, and_true] at e0 e1 e2
    subst e0 e1 e2
    refine ⟨(t, n, s), rfl, ⟨(i64_of_wf hw).1, (i64_of_wf hw).2, by unfold maxLen at hs; dsimp only; omega⟩, ?_⟩
    simp only [List.map_cons, List.map_nil, Rows.uptoBulk, Rows.uptoBulkAll, Array.length_toList]
    show s.size + 1 ≤ _
    have : s.data.size = s.size := rfl
    omega

theorem open_items {H : Type} {enc : TypeId × Value → H} {W : World} {a : Option Addr} {len cap : Nat} {d : DataW H} {p : List MemPlace}
    (h : DataW.Trod enc Try.prog W 0 (fun _ => true) true 37 (.slice a len cap) d p) :
    ∃ l, RdI W (.slice a len cap) l ∧ (∀ x ∈ l, small x) ∧ l.length + txts l ≤ Rows.uptoBulk d := by
  obtain ⟨fuel, hf⟩ := h
  have hc : Try.prog.cellsOf 55 = 3 := by kernel_rfl
  rcases Go.Deep.open_slice Try.underlying37 hf with ⟨hcs, hx⟩ | ⟨x, l, c, m, n, D, Pl, hcs, _, hl, hm, hmc, hx, hel⟩
  · simp [Value.cells] at hcs
    obtain ⟨rfl, rfl, rfl⟩ := hcs
    exact ⟨[], ⟨none, 0, rfl, by simp, by simp [maxLen], by simp, fun x hx => by cases hx⟩, by simp, by simp [txts]⟩
  · simp [Value.cells] at hcs
    obtain ⟨rfl, rfl, rfl⟩ := hcs
    simp only [Prod.mk.injEq] at hx
    obtain ⟨rfl, _⟩ := hx
    have hmc' : m = cap := by simpa using hmc
    rw [hc] at hel
    have hall : ∀ i, i < len → ∃ y : It, W.cells? 0 (x.add (i * 3)) 3 = some [.bool y.1, .int .i64 y.2.1, .string y.2.2] ∧ small y ∧ y.2.2.size + 1 ≤ Rows.uptoBulk (D i) := by
      intro i hi
      obtain ⟨cs', h1, h2⟩ := hel i (by omega)
      obtain ⟨y, rfl, h3, h4⟩ := open_item h2
      exact ⟨y, h1, h3, h4⟩
    obtain ⟨f, hfy⟩ := Go.Deep.choose_lt (α := It) hall
    refine ⟨(List.range len).map f, ⟨some x, cap, by simp, by simp; omega, hm, by simp, ?_⟩, ?_, ?_⟩
    · intro z hz i hi
      obtain rfl := Option.some.inj hz
      have hi' : i < len := by simpa using hi
      obtain ⟨_, _, hcell⟩ := World.cells?_some (hfy i hi').1
      have k0 := hcell 0 (by omega)
      have k1 := hcell 1 (by omega)
      have k2 := hcell 2 (by omega)
      rw [Go.Deep.add_add] at k0 k1 k2
      simp only [List.getElem_map, List.getElem_range]
      simp only [Nat.add_zero] at k0
      exact ⟨by simpa using k0, by simpa using k1, by simpa using k2⟩
    · intro y hy
      obtain ⟨i, hi, rfl⟩ := List.mem_map.1 hy
      exact (hfy i (by simpa using hi)).2.1
    · have key : ∀ k, k ≤ len → ((List.range k).map f).length + txts ((List.range k).map f) ≤ Rows.uptoBulkAll ((List.range k).map D) := by
        intro k
        induction k with
        | zero => simp [txts, Rows.uptoBulkAll]
        | succ k ih =>
          intro hk
          have h1 := ih (by omega)
          have h2 := (hfy k (by omega)).2.2
          rw [List.range_succ, List.map_append, List.map_append, bulks.all_append]
          simp only [List.length_append, txts, List.map_append, List.sum_append, List.map_cons, List.map_nil, List.length_cons, List.length_nil, List.sum_cons, List.sum_nil, Rows.uptoBulkAll] at h1 ⊢
          omega
      have := key len (Nat.le_refl _)
      simp only [Rows.uptoBulk]
      omega

end Go.Proofs.Ytdbfblkdjijmmaa
