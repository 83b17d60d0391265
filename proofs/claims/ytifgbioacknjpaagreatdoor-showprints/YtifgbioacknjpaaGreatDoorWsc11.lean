import Derived.Test.YtifgbioacknjpaaGreatDoorWsc08
import Derived.Test.YtifgbioacknjpaaGreatDoorWsc10
import Derived.Test.YtifgbioacknjpaaGreatDoorRows
import Derived.Test.YtifgbioacknjpaaGreatDoorWsc02
import Derived.Deep.RegionLaw
import Derived.Deep.CutBlock
import Derived.Test.YtifgbioacknjpaaGreatDoorWsc09
import Derived.Deep.RegionHeldLaw
import Derived.Test.YtifgbioacknjpaaGreatDoorWsc06
import Derived.Test.YtifgbioacknjpaaGreatDoorWsc05
import Derived.Deep.DeepCutAuto
import Derived.Shelf.LaysC
import Derived.Shelf.Strconv.AtoiAll

/- Arguments that are the document's charts, opened. -/
namespace Go.Proofs.YtifgbioacknjpaaGreatDoor
open Go.ChangeShapes Go.WideShapes Go.ChangeAt Go.RowKit
set_option linter.unusedSimpArgs false
set_option linter.unusedVariables false

theorem weights_all {H : Type} {P : Program} {e : TypeId} : ∀ {l : List (DataW H)} {d : DataW H}, d ∈ l → ∀ n ∈ d.weights P e, n ∈ DataW.weightsAll P e l
  | x :: r, d, h, n, hn => by
    simp only [DataW.weightsAll, List.mem_append]
    rcases List.mem_cons.1 h with rfl | h
    · exact .inl hn
    · exact .inr (weights_all h n hn)
/-- What is met is not larger than what there may be. -/
def Wt {H : Type} (t : TypeId) (d : DataW H) : Prop := ∀ n ∈ d.weights Tryz.prog t, n ≤ reachBytes
theorem Wt.field {H : Type} {t u : TypeId} {fs : Array Field} {f : Field} {xs : List (DataW H × List MemPlace)} {y : DataW H × List MemPlace} (hu : Tryz.prog.underlying t = some (.struct fs)) (h : Wt t (.agg (xs.map (·.1)))) (j : Nat) (hf : fs[j]? = some f) (hy : xs[j]? = some y) (ht : f.type = u) : Wt u y.1 := fun n hn => by
  refine h n ?_
  simp only [DataW.weights, hu]
  refine DataW.weights_mem_each (j := j) (t := u) (d := y.1) ?_ (by simp [hy]) n hn
  simp [hf, ht]
theorem spot_none {w : World} {a : Addr} {v : Value} (h : w.cell? (a.add 0) = some v) : a = ⟨a.block, a.off, none⟩ := by
  rw [show a.add 0 = a from by simp [Addr.add]] at h
  unfold World.cell? at h
  split at h
  · obtain ⟨b, o, s⟩ := a
    cases s with
    | none => rfl
    | some x => simp at h
  · cases h
theorem RdK.both {α : Type} {ok : Nat → Prop} {w : World} {k : Nat} {R : α → List Value → Prop} {Q : α → Prop} {l : List α} {v : Value} (h : RdK ok w k (fun x cs => R x cs ∧ Q x) l v) : RdK ok w k R l v ∧ ∀ x ∈ l, Q x := by
  obtain ⟨a, cap, h1, h2, h3, h4⟩ := h
  refine ⟨⟨a, cap, h1, h2, h3, fun i hi => ?_⟩, fun x hx => ?_⟩
  · obtain ⟨b, off, cs, q1, q2, q3, q4, q5, q6⟩ := h4 i hi
    exact ⟨b, off, cs, q1, q2, q3, q4, q5.1, q6⟩
  · obtain ⟨i, hi, rfl⟩ := List.getElem_of_mem hx
    obtain ⟨b, off, cs, q1, q2, q3, q4, q5, q6⟩ := h4 i hi
    exact q5.2
section
variable {H : Type} {enc : TypeId × Value → H} {W : World}
theorem open_row {α : Type} {k : Nat} {R : α → List Value → Prop} {sl el : TypeId} (hu : Tryz.prog.underlying sl = some (.slice el)) (hc : Tryz.prog.cellsOf el = k) (hk : 0 < k) (hby : decide (1 ≤ Tryz.prog.bytesOf el) = true) {fuel : Nat} {cs : List Value} {x : DataW H × List MemPlace}
    (h : DataW.trod enc Tryz.prog W 0 (fun _ => true) true fuel sl cs = some x) (hw : Wt sl x.1) (hel : ∀ n' cs' y, fuel = n' + 1 → DataW.trod enc Tryz.prog W 0 (fun _ => true) true n' el cs' = some y → Wt el y.1 → ∃ a, R a cs') :
    ∃ (l : List α) (v : Value), cs = [v] ∧ RdK (fun _ => True) W k R l v ∧ l.length ≤ 140737488351232 := by
  rcases DataW.trod_slice hu h with ⟨rfl, _⟩ | ⟨ad, len, cap, elems, rest, n', hn', rfl, rfl, _, hlc, hcm, hel', helt, _, _⟩
  · exact ⟨[], _, rfl, rdK_none _ _ _ _, by simp⟩
  · have hlw : len ≤ 140737488351232 := by
      have h0 := hw ((elems.length + rest.length) * Tryz.prog.bytesOf el) (by simp [DataW.weights, hu])
      have h1 : (elems.length + rest.length) * 1 ≤ (elems.length + rest.length) * Tryz.prog.bytesOf el := Nat.mul_le_mul_left _ (of_decide_eq_true hby)
      have h2 : reachBytes = 140737488351232 := rfl
      omega
    rw [hc] at helt
    have hall : ∀ i, i < len → ∃ q : α × List Value, W.cells? 0 (ad.add (i * k)) k = some q.2 ∧ R q.1 q.2 := by
      intro i hi
      have h1 := helt i hi
      have hie : i < elems.length := by omega
      rw [List.getElem?_eq_getElem hie] at h1
      obtain ⟨cs', h2, h3⟩ := Option.bind_eq_some_iff.1 h1
      obtain ⟨a, ha⟩ := hel n' cs' _ hn' h3 (fun n hn => by
        refine hw n ?_
        simp only [DataW.weights, hu]
        exact List.mem_cons_of_mem _ (List.mem_append_left _ (weights_all (List.mem_map_of_mem (List.getElem_mem hie)) n hn)))
      exact ⟨(a, cs'), h2, ha⟩
    obtain ⟨l, hll, hfy⟩ := pick len hall
    refine ⟨l.map (·.1), _, rfl, ⟨some ad, cap, by simp [hll], by simpa [hll] using hlc, hcm, fun i hi => ?_⟩, by simpa [hll] using hlw⟩
    have hi' : i < l.length := by simpa using hi
    obtain ⟨_, q2, q3⟩ := World.cells?_some (hfy 0 (by omega)).1
    obtain ⟨_, g2, g3⟩ := World.cells?_some (hfy i hi').1
    have hs : ad = ⟨ad.block, ad.off, none⟩ := by
      have := q3 0 hk
      rw [Nat.zero_mul, show (ad.add 0).add 0 = ad.add 0 from by simp [Addr.add], List.getElem?_eq_getElem (by omega)] at this
      exact spot_none this
    generalize ad.block = b at hs
    generalize ad.off = off at hs
    subst hs
    have g4 : ∀ j u, (l[i]).2[j]? = some u → W.cell? ⟨b, off + i * k + j, none⟩ = some u := fun j u hj => by
      have hjl := (List.getElem?_eq_some_iff.1 hj).1
      have := g3 j (by omega)
      rw [add_plain, add_plain, hj] at this
      exact this
    refine ⟨b, off, (l[i]).2, rfl, trivial, ?_, g2, ?_, g4⟩
    · exact World.block_lt_of_cell? W _ (g4 0 _ (List.getElem?_eq_getElem (by omega)))
    · rw [List.getElem_map]
      exact (hfy i hi').2
theorem open_node1 {fuel : Nat} {cs : List Value} {x : DataW H × List MemPlace} (h : DataW.trod enc Tryz.prog W 0 (fun _ => true) true fuel 104 cs = some x) :
    ∃ (x : Sx) (c0 c1 c2 c3 : Value), cs = [c0, c1, c2, c3] ∧ RdX (fun _ => True) W x (.agg #[c0, c1, c2, c3]) := by
  obtain ⟨d, t, c0, c1, c2, c3, _, hcs, hr⟩ := open_node fuel fuel (Nat.le_refl _) h
  exact ⟨⟨d, t⟩, c0, c1, c2, c3, hcs, hr⟩
set_option maxRecDepth 100000 in
theorem open_pos {fuel : Nat} {cs : List Value} {x : DataW H × List MemPlace} (h : DataW.trod enc Tryz.prog W 0 (fun _ => true) true fuel 23 cs = some x) : ∃ p : Pl, cs = [.int .i64 p.1, .int .i64 p.2] := by
  obtain ⟨xs, n, _, rfl, hl, hlen, hf⟩ := DataW.trod_struct Tryz.underlying23 h
  have hc : Tryz.prog.cellsOf 23 = 2 := by kernel_rfl
  have cI : Tryz.prog.cellsOf 3 = 1 := by kernel_rfl
  rw [hc] at hl
  have f0 : DataW.trod enc Tryz.prog W 0 (fun _ => true) true n 3 ((cs.drop 0).take (Tryz.prog.cellsOf 3)) = xs[0]? := hf 0 _ rfl
  have f1 : DataW.trod enc Tryz.prog W 0 (fun _ => true) true n 3 ((cs.drop 1).take (Tryz.prog.cellsOf 3)) = xs[1]? := hf 1 _ rfl
  rw [cI] at f0 f1
  match cs, hl, xs, hlen with
  | [a, b], _, [y0, y1], _ =>
    simp only [List.drop_zero, List.take_succ_cons, List.take_zero, List.drop_succ_cons, List.getElem?_cons_zero, List.getElem?_cons_succ] at f0 f1
    obtain ⟨k, e0, _, _⟩ := DataW.trod_int Tryz.underlying3 f0
    obtain ⟨m, e1, _, _⟩ := DataW.trod_int Tryz.underlying3 f1
    simp only [List.cons.injEq, and_true] at e0 e1
    subst e0 e1
    exact ⟨(k, m), rfl⟩
theorem str_wt {s : ByteArray} (h : Wt (H := H) 9 (.lit (.string s.data.toList))) : s.size ≤ 140737488351232 := by
  have := h s.data.toList.length (by simp [DataW.weights])
  simpa [reachBytes] using this
theorem sD_of (s : ByteArray) : Value.string s = sD s.data.toList := by unfold sD; simp
/-- A number that an int holds. -/
def WfI (n : Int) : Prop := (Lit.int .i64 n).wf = true
def WfV (v : List UInt8 × Int × Pl) : Prop := v.1.length ≤ 140737488351232
set_option maxRecDepth 100000 in
theorem open_varD {fuel : Nat} {cs : List Value} {x : DataW H × List MemPlace} (h : DataW.trod enc Tryz.prog W 0 (fun _ => true) true fuel 54 cs = some x) (hw : Wt 54 x.1) : ∃ v, rVarD (fun _ => True) W v cs ∧ WfV v := by
  obtain ⟨xs, n, _, rfl, hl, hlen, hf⟩ := DataW.trod_struct Tryz.underlying54 h
  have hc : Tryz.prog.cellsOf 54 = 4 := by kernel_rfl
  have cL : Tryz.prog.cellsOf 2 = 1 := by kernel_rfl
  have c9 : Tryz.prog.cellsOf 9 = 1 := by kernel_rfl
  have cp : Tryz.prog.cellsOf 23 = 2 := by kernel_rfl
  rw [hc] at hl
  have f0 : DataW.trod enc Tryz.prog W 0 (fun _ => true) true n 9 ((cs.drop 0).take (Tryz.prog.cellsOf 9)) = xs[0]? := hf 0 _ rfl
  have f1 : DataW.trod enc Tryz.prog W 0 (fun _ => true) true n 2 ((cs.drop 1).take (Tryz.prog.cellsOf 2)) = xs[1]? := hf 1 _ rfl
  have f2 : DataW.trod enc Tryz.prog W 0 (fun _ => true) true n 23 ((cs.drop 2).take (Tryz.prog.cellsOf 23)) = xs[2]? := hf 2 _ rfl
  rw [c9] at f0
  rw [cL] at f1
  rw [cp] at f2
  match cs, hl, xs, hlen with
  | [a, b, c, e], _, [y0, y1, y2], _ =>
    have w0 := hw.field Tryz.underlying54 0 rfl rfl rfl
    simp only [List.drop_zero, List.take_succ_cons, List.take_zero, List.drop_succ_cons, List.getElem?_cons_zero, List.getElem?_cons_succ] at f0 f1 f2
    obtain ⟨s, e0, rfl, _⟩ := DataW.trod_string Tryz.underlying9 f0
    obtain ⟨m, e1, _, _⟩ := DataW.trod_int Tryz.underlying2 f1
    obtain ⟨p, e2⟩ := open_pos f2
    simp only [List.cons.injEq, and_true] at e0 e1 e2
    obtain ⟨e2, e3⟩ := e2
    subst e0 e1 e2 e3
    refine ⟨(s.data.toList, m, p), ?_, ?_⟩
    · show [_, _, _, _] = [sD s.data.toList, _, _, _]
      rw [sD_of]
    · have := str_wt w0
      simpa [WfV] using this
def WfT (s : List UInt8 × Sx) : Prop := s.1.length ≤ 140737488351232
def WfO (o : OnC) : Prop := o.1.length ≤ 140737488351232 ∧ o.2.2.1.length ≤ 140737488351232 ∧ o.2.2.2.1.length ≤ 140737488351232 ∧ ∀ s ∈ o.2.2.2.1, WfT s
set_option maxRecDepth 100000 in
theorem open_setD {fuel : Nat} {cs : List Value} {x : DataW H × List MemPlace} (h : DataW.trod enc Tryz.prog W 0 (fun _ => true) true fuel 110 cs = some x) (hw : Wt 110 x.1) : ∃ s, rSetD (fun _ => True) W s cs ∧ WfT s := by
  obtain ⟨xs, n, _, rfl, hl, hlen, hf⟩ := DataW.trod_struct Tryz.underlying110 h
  have hc : Tryz.prog.cellsOf 110 = 5 := by kernel_rfl
  have c9 : Tryz.prog.cellsOf 9 = 1 := by kernel_rfl
  have cn : Tryz.prog.cellsOf 104 = 4 := by kernel_rfl
  rw [hc] at hl
  have f0 : DataW.trod enc Tryz.prog W 0 (fun _ => true) true n 9 ((cs.drop 0).take (Tryz.prog.cellsOf 9)) = xs[0]? := hf 0 _ rfl
  have f1 : DataW.trod enc Tryz.prog W 0 (fun _ => true) true n 104 ((cs.drop 1).take (Tryz.prog.cellsOf 104)) = xs[1]? := hf 1 _ rfl
  rw [c9] at f0
  rw [cn] at f1
  match cs, hl, xs, hlen with
  | [a, b, c, e, g], _, [y0, y1], _ =>
    have w0 := hw.field Tryz.underlying110 0 rfl rfl rfl
    simp only [List.drop_zero, List.take_succ_cons, List.take_zero, List.drop_succ_cons, List.getElem?_cons_zero, List.getElem?_cons_succ] at f0 f1
    obtain ⟨s, e0, rfl, _⟩ := DataW.trod_string Tryz.underlying9 f0
    obtain ⟨x, c0, c1, c2, c3, e1, hr⟩ := open_node1 f1
    simp only [List.cons.injEq, and_true] at e0 e1
    obtain ⟨q0, q1, q2, q3⟩ := e1
    subst e0 q0 q1 q2 q3
    refine ⟨(s.data.toList, x), ⟨_, _, _, _, ?_, hr⟩, ?_⟩
    · rw [← sD_of]
    · have := str_wt w0
      simpa [WfT] using this
set_option maxRecDepth 100000 in
theorem open_onD {fuel : Nat} {cs : List Value} {x : DataW H × List MemPlace} (h : DataW.trod enc Tryz.prog W 0 (fun _ => true) true fuel 107 cs = some x) (hw : Wt 107 x.1) : ∃ o, rOnD (fun _ => True) W o cs ∧ WfO o := by
  obtain ⟨xs, n, _, rfl, hl, hlen, hf⟩ := DataW.trod_struct Tryz.underlying107 h
  have hc : Tryz.prog.cellsOf 107 = 10 := by kernel_rfl
  have c9 : Tryz.prog.cellsOf 9 = 1 := by kernel_rfl
  have c4 : Tryz.prog.cellsOf 4 = 1 := by kernel_rfl
  have cn : Tryz.prog.cellsOf 104 = 4 := by kernel_rfl
  have cs1 : Tryz.prog.cellsOf 105 = 1 := by kernel_rfl
  have cp : Tryz.prog.cellsOf 23 = 2 := by kernel_rfl
  have c5 : Tryz.prog.cellsOf 110 = 5 := by kernel_rfl
  rw [hc] at hl
  have f0 : DataW.trod enc Tryz.prog W 0 (fun _ => true) true n 9 ((cs.drop 0).take (Tryz.prog.cellsOf 9)) = xs[0]? := hf 0 _ rfl
  have f1 : DataW.trod enc Tryz.prog W 0 (fun _ => true) true n 4 ((cs.drop 1).take (Tryz.prog.cellsOf 4)) = xs[1]? := hf 1 _ rfl
  have f2 : DataW.trod enc Tryz.prog W 0 (fun _ => true) true n 104 ((cs.drop 2).take (Tryz.prog.cellsOf 104)) = xs[2]? := hf 2 _ rfl
  have f3 : DataW.trod enc Tryz.prog W 0 (fun _ => true) true n 9 ((cs.drop 6).take (Tryz.prog.cellsOf 9)) = xs[3]? := hf 3 _ rfl
  have f4 : DataW.trod enc Tryz.prog W 0 (fun _ => true) true n 105 ((cs.drop 7).take (Tryz.prog.cellsOf 105)) = xs[4]? := hf 4 _ rfl
  have f5 : DataW.trod enc Tryz.prog W 0 (fun _ => true) true n 23 ((cs.drop 8).take (Tryz.prog.cellsOf 23)) = xs[5]? := hf 5 _ rfl
  rw [c9] at f0 f3
  rw [c4] at f1
  rw [cn] at f2
  rw [cs1] at f4
  rw [cp] at f5
  match cs, hl, xs, hlen with
  | [a0, a1, a2, a3, a4, a5, a6, a7, a8, a9], _, [y0, y1, y2, y3, y4, y5], _ =>
    have w0 := hw.field Tryz.underlying107 0 rfl rfl rfl
    have w3 := hw.field Tryz.underlying107 3 rfl rfl rfl
    have w4 := hw.field Tryz.underlying107 4 rfl rfl rfl
    simp only [List.drop_zero, List.take_succ_cons, List.take_zero, List.drop_succ_cons, List.getElem?_cons_zero, List.getElem?_cons_succ] at f0 f1 f2 f3 f4 f5
    obtain ⟨ev, e0, rfl, _⟩ := DataW.trod_string Tryz.underlying9 f0
    obtain ⟨hs, e1, _⟩ := DataW.trod_bool Tryz.underlying4 f1
    obtain ⟨gx, c0, c1, c2, c3, e2, hr⟩ := open_node1 f2
    obtain ⟨tg, e3, rfl, _⟩ := DataW.trod_string Tryz.underlying9 f3
    obtain ⟨l, sl, e4, hsl, hsn⟩ := open_row (k := 5) (R := fun s cs => rSetD (fun _ => True) W s cs ∧ WfT s) Tryz.underlying105 c5 (by decide) (by kernel_rfl) f4 w4 (fun n' cs' y _ hy hwy => open_setD hy hwy)
    obtain ⟨p, e5⟩ := open_pos f5
    simp only [List.cons.injEq, and_true] at e0 e1 e2 e3 e4 e5
    obtain ⟨q0, q1, q2, q3⟩ := e2
    obtain ⟨q4, q5⟩ := e5
    subst e0 e1 q0 q1 q2 q3 e3 e4 q4 q5
    obtain ⟨hsl, hwt⟩ := hsl.both
    refine ⟨(ev.data.toList, (hs, gx), tg.data.toList, l, p), ⟨_, _, _, _, _, ?_, hr, hsl⟩, ?_, ?_, hsn, hwt⟩
    · rw [← sD_of, ← sD_of]
    · have := str_wt w0
      simpa using this
    · have := str_wt w3
      simpa using this
def WfS : (d : Nat) → St d → Prop
  | 0, t => Empty.elim t
  | d + 1, t => WfI t.1.2.2.2.1.1 ∧ WfI t.1.2.2.2.1.2 ∧ (t.1.1.1.length ≤ 140737488351232 ∧ t.1.2.2.1.1.length ≤ 140737488351232 ∧ t.1.2.2.1.2.length ≤ 140737488351232 ∧ t.1.2.2.2.2.length ≤ 140737488351232 ∧ ∀ o ∈ t.1.2.2.2.2, WfO o) ∧ t.2.length ≤ 140737488351232 ∧ ∀ x ∈ t.2, WfS d x
set_option maxRecDepth 100000 in
theorem open_stD : ∀ (m fuel : Nat), fuel ≤ m → ∀ {cs : List Value} {x : DataW H × List MemPlace}, DataW.trod enc Tryz.prog W 0 (fun _ => true) true fuel 85 cs = some x → Wt 85 x.1 → ∃ t, rStD (fuel / 2) (fun _ => True) W t cs ∧ WfS (fuel / 2) t
  | 0, fuel, hf, cs, x, h, _ => by
    obtain rfl : fuel = 0 := by omega
    simp [DataW.trod] at h
  | m + 1, fuel, hf, cs, x, h, hw => by
    obtain ⟨xs, n, rfl, rfl, hl, hlen, hf'⟩ := DataW.trod_struct Tryz.underlying85 h
    have hc : Tryz.prog.cellsOf 85 = 11 := by kernel_rfl
    have c9 : Tryz.prog.cellsOf 9 = 1 := by kernel_rfl
    have c4 : Tryz.prog.cellsOf 4 = 1 := by kernel_rfl
    have c3 : Tryz.prog.cellsOf 3 = 1 := by kernel_rfl
    have cp : Tryz.prog.cellsOf 23 = 2 := by kernel_rfl
    have co : Tryz.prog.cellsOf 83 = 1 := by kernel_rfl
    have cst : Tryz.prog.cellsOf 25 = 1 := by kernel_rfl
    have c10 : Tryz.prog.cellsOf 107 = 10 := by kernel_rfl
    rw [hc] at hl
    have f0 : DataW.trod enc Tryz.prog W 0 (fun _ => true) true n 9 ((cs.drop 0).take (Tryz.prog.cellsOf 9)) = xs[0]? := hf' 0 _ rfl
    have f1 : DataW.trod enc Tryz.prog W 0 (fun _ => true) true n 23 ((cs.drop 1).take (Tryz.prog.cellsOf 23)) = xs[1]? := hf' 1 _ rfl
    have f2 : DataW.trod enc Tryz.prog W 0 (fun _ => true) true n 4 ((cs.drop 3).take (Tryz.prog.cellsOf 4)) = xs[2]? := hf' 2 _ rfl
    have f3 : DataW.trod enc Tryz.prog W 0 (fun _ => true) true n 4 ((cs.drop 4).take (Tryz.prog.cellsOf 4)) = xs[3]? := hf' 3 _ rfl
    have f4 : DataW.trod enc Tryz.prog W 0 (fun _ => true) true n 9 ((cs.drop 5).take (Tryz.prog.cellsOf 9)) = xs[4]? := hf' 4 _ rfl
    have f5 : DataW.trod enc Tryz.prog W 0 (fun _ => true) true n 9 ((cs.drop 6).take (Tryz.prog.cellsOf 9)) = xs[5]? := hf' 5 _ rfl
    have f6 : DataW.trod enc Tryz.prog W 0 (fun _ => true) true n 3 ((cs.drop 7).take (Tryz.prog.cellsOf 3)) = xs[6]? := hf' 6 _ rfl
    have f7 : DataW.trod enc Tryz.prog W 0 (fun _ => true) true n 3 ((cs.drop 8).take (Tryz.prog.cellsOf 3)) = xs[7]? := hf' 7 _ rfl
    have f8 : DataW.trod enc Tryz.prog W 0 (fun _ => true) true n 83 ((cs.drop 9).take (Tryz.prog.cellsOf 83)) = xs[8]? := hf' 8 _ rfl
    have f9 : DataW.trod enc Tryz.prog W 0 (fun _ => true) true n 25 ((cs.drop 10).take (Tryz.prog.cellsOf 25)) = xs[9]? := hf' 9 _ rfl
    rw [c9] at f0 f4 f5
    rw [c4] at f2 f3
    rw [c3] at f6 f7
    rw [cp] at f1
    rw [co] at f8
    rw [cst] at f9
    match cs, hl, xs, hlen with
    | [a0, a1, a2, a3, a4, a5, a6, a7, a8, a9, a10], _, [y0, y1, y2, y3, y4, y5, y6, y7, y8, y9], _ =>
      have w0 := hw.field Tryz.underlying85 0 rfl rfl rfl
      have w4 := hw.field Tryz.underlying85 4 rfl rfl rfl
      have w5 := hw.field Tryz.underlying85 5 rfl rfl rfl
      have w8 := hw.field Tryz.underlying85 8 rfl rfl rfl
      have w9 := hw.field Tryz.underlying85 9 rfl rfl rfl
      simp only [List.drop_zero, List.take_succ_cons, List.take_zero, List.drop_succ_cons, List.getElem?_cons_zero, List.getElem?_cons_succ] at f0 f1 f2 f3 f4 f5 f6 f7 f8 f9
      obtain ⟨nm, e0, rfl, _⟩ := DataW.trod_string Tryz.underlying9 f0
      obtain ⟨p, e1⟩ := open_pos f1
      obtain ⟨al, e2, _⟩ := DataW.trod_bool Tryz.underlying4 f2
      obtain ⟨en, e3, _⟩ := DataW.trod_bool Tryz.underlying4 f3
      obtain ⟨dd, e4, rfl, _⟩ := DataW.trod_string Tryz.underlying9 f4
      obtain ⟨ud, e5, rfl, _⟩ := DataW.trod_string Tryz.underlying9 f5
      obtain ⟨wh, e6, _, g6⟩ := DataW.trod_int Tryz.underlying3 f6
      obtain ⟨rt, e7, _, g7⟩ := DataW.trod_int Tryz.underlying3 f7
      obtain ⟨ol, so, e8, hso, hon⟩ := open_row (k := 10) (R := fun o cs => rOnD (fun _ => True) W o cs ∧ WfO o) Tryz.underlying83 c10 (by decide) (by kernel_rfl) f8 w8 (fun n' cs' y _ hy hwy => open_onD hy hwy)
      obtain ⟨g, rfl⟩ : ∃ g, n = g + 1 := by
        cases n with
        | zero => simp [DataW.trod] at f9
        | succ g => exact ⟨g, rfl⟩
      obtain ⟨il, si, e9, hsi, hin⟩ := open_row (k := 11) (R := fun t cs => rStD (g / 2) (fun _ => True) W t cs ∧ WfS (g / 2) t) Tryz.underlying25 hc (by decide) (by kernel_rfl) f9 w9 (fun n' cs' y hn' hy hwy => by
        obtain rfl : n' = g := by omega
        exact open_stD m n' (by omega) hy hwy)
      simp only [List.cons.injEq, and_true] at e0 e1 e2 e3 e4 e5 e6 e7 e8 e9
      obtain ⟨q0, q1⟩ := e1
      subst e0 q0 q1 e2 e3 e4 e5 e6 e7 e8 e9
      obtain ⟨hsi, hwf⟩ := hsi.both
      obtain ⟨hso, hwo⟩ := hso.both
      rw [half2 g]
      refine ⟨(((nm.data.toList, p), (al, en), (dd.data.toList, ud.data.toList), (wh, rt), ol), il), ⟨_, _, ?_, hso, hsi⟩, g6, g7, ⟨?_, ?_, ?_, hon, hwo⟩, hin, hwf⟩
      · show _ = [sD nm.data.toList, _, _, _, _, sD dd.data.toList, sD ud.data.toList, _, _, _, _]
        rw [← sD_of, ← sD_of, ← sD_of]
      · have := str_wt w0
        simpa using this
      · have := str_wt w4
        simpa using this
      · have := str_wt w5
        simpa using this
def WfC (d : Nat) (c : ChD d) : Prop := WfI c.2.1 ∧ (∀ x ∈ c.2.2.1, WfV x) ∧ c.2.2.2.length ≤ 140737488351232 ∧ ∀ t ∈ c.2.2.2, WfS d t
set_option maxRecDepth 100000 in
theorem open_chD {fuel : Nat} {cs : List Value} {x : DataW H × List MemPlace} (h : DataW.trod enc Tryz.prog W 0 (fun _ => true) true fuel 27 cs = some x) (hw : Wt 27 x.1) : ∃ (d : Nat) (c : ChD d) (v0 v1 v2 v3 v4 v5 : Value), cs = [v0, v1, v2, v3, v4, v5] ∧ RdD (fun _ => True) W d c (.agg #[v0, v1, v2, v3, v4, v5]) ∧ WfC d c := by
  obtain ⟨xs, n, _, rfl, hl, hlen, hf'⟩ := DataW.trod_struct Tryz.underlying27 h
  have hc : Tryz.prog.cellsOf 27 = 6 := by kernel_rfl
  have c9 : Tryz.prog.cellsOf 9 = 1 := by kernel_rfl
  have c3 : Tryz.prog.cellsOf 3 = 1 := by kernel_rfl
  have cp : Tryz.prog.cellsOf 23 = 2 := by kernel_rfl
  have cv : Tryz.prog.cellsOf 24 = 1 := by kernel_rfl
  have cst : Tryz.prog.cellsOf 25 = 1 := by kernel_rfl
  have c4 : Tryz.prog.cellsOf 54 = 4 := by kernel_rfl
  have c11 : Tryz.prog.cellsOf 85 = 11 := by kernel_rfl
  rw [hc] at hl
  have f0 : DataW.trod enc Tryz.prog W 0 (fun _ => true) true n 9 ((cs.drop 0).take (Tryz.prog.cellsOf 9)) = xs[0]? := hf' 0 _ rfl
  have f1 : DataW.trod enc Tryz.prog W 0 (fun _ => true) true n 3 ((cs.drop 1).take (Tryz.prog.cellsOf 3)) = xs[1]? := hf' 1 _ rfl
  have f2 : DataW.trod enc Tryz.prog W 0 (fun _ => true) true n 23 ((cs.drop 2).take (Tryz.prog.cellsOf 23)) = xs[2]? := hf' 2 _ rfl
  have f3 : DataW.trod enc Tryz.prog W 0 (fun _ => true) true n 24 ((cs.drop 4).take (Tryz.prog.cellsOf 24)) = xs[3]? := hf' 3 _ rfl
  have f4 : DataW.trod enc Tryz.prog W 0 (fun _ => true) true n 25 ((cs.drop 5).take (Tryz.prog.cellsOf 25)) = xs[4]? := hf' 4 _ rfl
  rw [c9] at f0
  rw [c3] at f1
  rw [cp] at f2
  rw [cv] at f3
  rw [cst] at f4
  match cs, hl, xs, hlen with
  | [a0, a1, a2, a3, a4, a5], _, [y0, y1, y2, y3, y4], _ =>
    have w3 := hw.field Tryz.underlying27 3 rfl rfl rfl
    have w4 := hw.field Tryz.underlying27 4 rfl rfl rfl
    simp only [List.drop_zero, List.take_succ_cons, List.take_zero, List.drop_succ_cons, List.getElem?_cons_zero, List.getElem?_cons_succ] at f0 f1 f2 f3 f4
    obtain ⟨nm, e0, _, _⟩ := DataW.trod_string Tryz.underlying9 f0
    obtain ⟨vn, e1, _, g1⟩ := DataW.trod_int Tryz.underlying3 f1
    obtain ⟨p, e2⟩ := open_pos f2
    obtain ⟨vl, sv, e3, hsv, hvn⟩ := open_row (k := 4) (R := fun v cs => rVarD (fun _ => True) W v cs ∧ WfV v) Tryz.underlying24 c4 (by decide) (by kernel_rfl) f3 w3 (fun n' cs' y _ hy hwy => open_varD hy hwy)
    obtain ⟨g, rfl⟩ : ∃ g, n = g + 1 := by
      cases n with
      | zero => simp [DataW.trod] at f4
      | succ g => exact ⟨g, rfl⟩
    obtain ⟨il, si, e4, hsi, hin⟩ := open_row (k := 11) (R := fun t cs => rStD (g / 2) (fun _ => True) W t cs ∧ WfS (g / 2) t) Tryz.underlying25 c11 (by decide) (by kernel_rfl) f4 w4 (fun n' cs' y hn' hy hwy => by
      obtain rfl : n' = g := by omega
      exact open_stD n' n' (Nat.le_refl _) hy hwy)
    simp only [List.cons.injEq, and_true] at e0 e1 e2 e3 e4
    obtain ⟨q0, q1⟩ := e2
    subst e0 e1 q0 q1 e3 e4
    obtain ⟨hsv, hwv⟩ := hsv.both
    obtain ⟨hsi, hwf⟩ := hsi.both
    refine ⟨g / 2, ((nm.data.toList, p), vn, vl, il), _, _, _, _, _, _, rfl, ⟨_, _, ?_, hsv, hsi⟩, g1, hwv, hin, hwf⟩
    rw [← sD_of]
end
/-- A chart that came in. -/
theorem open_chart {H : Type} {enc : TypeId × Value → H} {W : World} {v : Value} {x : DataW H} {p : List MemPlace} (hv : ∃ cs, v = .agg cs)
    (h : DataW.Trod enc Tryz.prog W 0 (fun _ => true) true 27 v x p) (hw : Wt 27 x) : ∃ (d : Nat) (c : ChD d), RdD (fun _ => True) W d c v ∧ WfC d c := by
  obtain ⟨cs, rfl⟩ := hv
  obtain ⟨fuel, hf⟩ := h
  obtain ⟨d, c, c0, c1, c2, c3, c4, c5, hcs, hr, hwf⟩ := open_chD hf hw
  refine ⟨d, c, ?_, hwf⟩
  have e : cs = #[c0, c1, c2, c3, c4, c5] := by
    have : cs.toList = [c0, c1, c2, c3, c4, c5] := hcs
    exact Array.toList_inj.1 (by rw [this])
  rw [e]
  exact hr
end Go.Proofs.YtifgbioacknjpaaGreatDoor

/- What the document's small and Small do. -/
namespace Go.Proofs.YtifgbioacknjpaaGreatDoor
open Go.RowKit
set_option linter.unusedSimpArgs false
set_option linter.unusedVariables false

theorem thru_cons {α : Type} (g : α → Int → Int) (p : α) (r : List α) (x : Int) : thru g (p :: r) x = if g p x < 0 then -1 else thru g r (g p x) := rfl

/-- What small answers of trees so deep. -/
def SmallC (d : Nat) : Prop := ∀ (ok : Nat → Prop) (t : T d) (v : Value) (w : World) (dep : Nat) (left : Int), RdT ok w d t v → dep ≤ 61 → -1 ≤ left → left ≤ 200 →
    Calls Tryz.prog 90 #[v, .int .i64 (dep : Int), .int .i64 left] w fun e w' => e = .returned (.int .i64 (sml d t dep left)) ∧ Below w.heap.size w w'
set_option maxRecDepth 100000 in
set_option maxHeartbeats 1000000 in
theorem refSmall_step (d : Nat) (IH : SmallC d) : SmallC (d + 1) := by
  intro ok t v w dep left h hdep hl0 hl1
  obtain ⟨k, n, s, ps, rfl⟩ := T.open t
  obtain ⟨sl, rfl, hp⟩ := rdT_mk.1 h
  obtain ⟨a, cap, rfl, hlc, hcm, hcell⟩ := hp.form
  rw [sml_mk]
  by_cases c1 : 60 < dep
  · rw [if_pos (.inl c1)]
    have e1 : (dep : Int) > 60 := by omega
    clear IH hcell h hp
    go_enter Tryz.func90, Tryz.ntmps90
    go_wp2
    go_ret
    exact ⟨rfl, (Below.refl _ _).alloc (Nat.le_refl _) _⟩
  have e1 : ¬ (dep : Int) > 60 := by omega
  by_cases c2 : left - 1 < 0
  · rw [if_pos (.inr (.inl c2))]
    clear IH hcell h hp
    go_enter Tryz.func90, Tryz.ntmps90
    go_wp2
    go_ret
    exact ⟨rfl, (Below.refl _ _).alloc (Nat.le_refl _) _⟩
  by_cases c3 : 1000 < s.size
  · rw [if_pos (.inr (.inr c3))]
    have e3 : (s.size : Int) > 1000 := by omega
    clear IH hcell h hp
    go_enter Tryz.func90, Tryz.ntmps90
    go_wp2
    go_ret
    exact ⟨rfl, (Below.refl _ _).alloc (Nat.le_refl _) _⟩
  rw [if_neg (by omega)]
  have e3 : ¬ (s.size : Int) > 1000 := by omega
  obtain ⟨V, hV⟩ : ∃ V, thru (fun p x => sml d p (dep + 1) x) ps (left - 1) = V := ⟨_, rfl⟩
  rw [hV]
  have HV : Hid (thru (fun p x => sml d p (dep + 1) x) (ps.drop 0) (left - 1) = V) := hV
  have HC : Hid (∀ (i : Nat) (hi : i < ps.length), ∃ b off c0 c1 c2 c3, a = some ⟨b, off, none⟩ ∧ b < w.heap.size ∧ RdT ok w d ps[i] (.agg #[c0, c1, c2, c3]) ∧ w.cell? ⟨b, off + i * 4, none⟩ = some c0 ∧ w.cell? ⟨b, off + i * 4 + 1, none⟩ = some c1 ∧ w.cell? ⟨b, off + i * 4 + 2, none⟩ = some c2 ∧ w.cell? ⟨b, off + i * 4 + 3, none⟩ = some c3) := hcell
  clear hV hcell h hp
  go_enter Tryz.func90, Tryz.ntmps90
  go_wp2
  go_loopw [2, 25] (fun l i wr => ∃ (j : Nat) (L : Int), j ≤ ps.length ∧ i = .int .i64 (j : Int) ∧ l = .int .i64 L ∧ 0 ≤ L ∧ L ≤ 199 ∧ Hid (thru (fun p x => sml d p (dep + 1) x) (ps.drop j) L = V) ∧ At4 wr w.heap.size (.int .i64 k) (.int .i64 n) (.string s) (.slice a ps.length cap) ∧ Below w.heap.size w wr) (fun _ i _ => ps.length - (RowKit.intOf i).toNat)
  case atStart => exact ⟨0, left - 1, Nat.zero_le _, rfl, rfl, by omega, by omega, HV, At4.new _ _ _ _ _ _, (Below.refl _ _).alloc (Nat.le_refl _) _⟩
  case round =>
    obtain ⟨j, L, hj, rfl, rfl, hL0, hL1, hT, hA, hb⟩ := hrel
    obtain ⟨y0, y1, y2, y3⟩ := id hA
    by_cases hlt : j < ps.length
    · obtain ⟨b, off, c0, c1, c2, c3, rfl, hbl, hr, k0, k1, k2, k3⟩ := HC.out j hlt
      have C0 := (hb.cell (p := ⟨b, off + j * 4, none⟩) hbl).trans k0
      have C1 := (hb.cell (p := ⟨b, off + j * 4 + 1, none⟩) hbl).trans k1
      have C2 := (hb.cell (p := ⟨b, off + j * 4 + 2, none⟩) hbl).trans k2
      have C3 := (hb.cell (p := ⟨b, off + j * 4 + 3, none⟩) hbl).trans k3
      have hcall := IH ok ps[j] _ wr (dep + 1) L (RdT.below hb (Nat.le_refl _) hr) (by omega) (by omega) (by omega)
      have hTT := hT.out
      rw [List.drop_eq_getElem_cons hlt, thru_cons] at hTT
      have hok := sml_ok d ps[j] (dep + 1) L
      have hcp := cnt_pos d ps[j]
      obtain ⟨z, hz⟩ : ∃ z, sml d ps[j] (dep + 1) L = z := ⟨_, rfl⟩
      rw [hz] at hcall hTT hok
      have i1 : (j : Int) < (ps.length : Int) := by omega
      have i2 : (0 : Int) ≤ (j : Int) := by omega
      have hd1 : ((dep + 1 : Nat) : Int) = (dep : Int) + 1 := by omega
      rw [hd1] at hcall
      clear k0 k1 k2 k3 hr hbl
      by_cases hzn : z < 0
      · rw [if_pos hzn] at hTT
        subst hTT
        clear hok hz hd1
        go_wp2_with (first
          | (go_at_call 90; refine hcall.mono ?_; rintro e w1 ⟨rfl, b1⟩))
        go_ret
        exact ⟨rfl, hb.trans (b1.mono hb.size)⟩
      · rw [if_neg hzn] at hTT
        have hzL : z ≤ L := by have := (hok (by omega)).1; omega
        have hN : Hid (thru (fun p x => sml d p (dep + 1) x) (ps.drop (j + 1)) z = V) := hTT
        clear hok hz hTT hd1 hcp
        go_wp2_with (first
          | (go_at_call 90; refine hcall.mono ?_; rintro e w1 ⟨rfl, b1⟩))
        go_roundw
        case rel => exact ⟨j + 1, z, hlt, by go_num, rfl, by omega, by omega, hN, hA.keepB b1 (World.block_lt_of_cell? wr _ y0), hb.trans (b1.mono hb.size)⟩
        case measure => simp [RowKit.intOf]; omega
    · have i1 : ¬ (j : Int) < (ps.length : Int) := by omega
      have hTT := hT.out
      rw [List.drop_eq_nil_of_le (by omega)] at hTT
      have hTe : L = V := hTT
      subst hTe
      clear hTT
      go_wp2
      go_ret
      exact ⟨rfl, hb⟩

theorem refSmall_any : ∀ (d : Nat), SmallC d
  | 0 => fun _ t => Empty.elim t
  | d + 1 => refSmall_step d (refSmall_any d)

theorem refSmallTop_any {ok : Nat → Prop} {d : Nat} {t : T d} {v : Value} {w : World} (h : RdT ok w d t v) :
    Calls Tryz.prog 52 #[v] w fun e w' => e = .returned (.bool (decide (0 ≤ sml d t 0 200))) ∧ Below w.heap.size w w' := by
  match d, t, h with
  | 0, t, h => exact Empty.elim t
  | d + 1, t, h =>
    obtain ⟨k, n, s, ps, rfl⟩ := T.open t
    have h0 := h
    obtain ⟨sl, rfl, hp⟩ := rdT_mk.1 h
    have hb0 := (Below.refl w.heap.size w).alloc (Nat.le_refl _) (.cells #[.int .i64 k, .int .i64 n, .string s, sl] 104)
    have hcall := refSmall_any (d + 1) ok (mkT k n s ps) _ _ 0 200 (RdT.below hb0 (Nat.le_refl _) h0) (by omega) (by omega) (by omega)
    obtain ⟨z, hz⟩ : ∃ z, sml (d + 1) (mkT k n s ps) 0 200 = z := ⟨_, rfl⟩
    rw [hz] at hcall ⊢
    clear hz h0 hp
    go_enter Tryz.func52, Tryz.ntmps52
    go_wp2_with (first
      | (go_at_call 90; refine hcall.mono ?_; rintro e w1 ⟨rfl, b1⟩))
    all_goals go_ret
    all_goals exact ⟨by simp [*], hb0.trans (b1.mono hb0.size)⟩
end Go.Proofs.YtifgbioacknjpaaGreatDoor

/- What the document's state does. -/
namespace Go.Proofs.YtifgbioacknjpaaGreatDoor
open Go.RowKit Go.Lib
set_option linter.unusedSimpArgs false
set_option linter.unusedVariables false
attribute [local go_sem ↓] Go.wp_at_zero Go.wp_at_succ

theorem Tryz.infoOnD : (Tryz.prog.info? 107).map (fun i => (i.zero, i.size, i.bytes)) = some (some (.agg #[.string ⟨#[]⟩, .bool false, .int .i64 0, .int .i64 0, .string ⟨#[]⟩, .slice none 0 0, .string ⟨#[]⟩, .slice none 0 0, .int .i64 0, .int .i64 0]), 10, 136) := by kernel_rfl
theorem Tryz.infoStD : (Tryz.prog.info? 85).map (fun i => (i.zero, i.size, i.bytes)) = some (some (.agg #[.string ⟨#[]⟩, .int .i64 0, .int .i64 0, .bool false, .bool false, .string ⟨#[]⟩, .string ⟨#[]⟩, .int .i64 0, .int .i64 0, .slice none 0 0, .slice none 0 0]), 11, 136) := by kernel_rfl
def er0 (w : World) (X : Nat) : Nat := match w.cell? ⟨X, 5, none⟩ with | some (.int _ n) => (if n = 0 then 1 else 0) | _ => 0
theorem DR.er {w : World} {X : Nat} {fin : Pl} {r : RsC} (h : DR w X fin r) : er0 w X = if r.2.2 = 0 then 1 else 0 := by
  obtain ⟨a, cap, h⟩ := h
  unfold er0
  rw [(h.b 5 _ rfl).1]
theorem DR.c5 {w : World} {X : Nat} {fin : Pl} {r : RsC} (h : DR w X fin r) : w.cell? ⟨X, 5, none⟩ = some (.int .i64 r.2.2) := by
  obtain ⟨a, cap, h⟩ := h
  exact (h.b 5 _ rfl).1

end Go.Proofs.YtifgbioacknjpaaGreatDoor

/- The walk of the document's first. -/
namespace Go.Proofs.YtifgbioacknjpaaGreatDoor
open Go.RowKit Go.Lib
set_option linter.unusedSimpArgs false
set_option linter.unusedVariables false

set_option maxHeartbeats 2000000 in
theorem refFirst_any (s : ByteArray) (w : World) (hT : Tabs w) (hs : s.size ≤ 140737488351232) (h0 : 0 < s.size) :
    Calls Tryz.prog 71 #[.string s] w fun e w' => e = .returned (tup3 (fst1 (runes (bl s))).1 (firstB (bl s)) (fst1 (runes (bl s))).2) ∧ Below w.heap.size w w' := by
  have hlen : (bl s).length = s.size := rfl
  have hne : bl s ≠ [] := by intro e; rw [e] at hlen; simp at hlen; omega
  have hc := runes_cons hne
  have hsp := spb_le (bl s)
  rw [hlen] at hsp
  have h20 := refNext_any s w hT
  have h21 := fun w1 (b1 : Below w.heap.size w w1) => refRun_any s w1 (hT.below b1 (Nat.le_refl _)) hs
  obtain ⟨r, hr⟩ : ∃ r, (nx (bl s)).1 = r := ⟨_, rfl⟩
  obtain ⟨q, hq⟩ : ∃ q, (nx (bl s)).2 = q := ⟨_, rfl⟩
  obtain ⟨k, hk⟩ : ∃ k, spb (bl s) = k := ⟨_, rfl⟩
  obtain ⟨m, hm⟩ : ∃ m, spn (runes (bl s)) = m := ⟨_, rfl⟩
  have hf : fst1 (runes (bl s)) = if letter r = true then (if m ≤ 24 then (1, m) else (0, 0)) else if dgt r = true then (if numb ((runes (bl s)).take m) = true then (2, m) else (0, 0)) else if sgn (runes (bl s)) = 0 then (0, 0) else (3, sgn (runes (bl s))) := by
    rw [← hr, ← hm]
    have := fst1_cons ((nx (bl s)).1, (bl s).take (nx (bl s)).2) (runes ((bl s).drop (nx (bl s)).2))
    rw [← hc] at this
    exact this
  have h12 := fun w1 => refLetter_any r w1
  have h30 := fun w1 => refDigit_any r w1
  have hkb : (byt ((runes (bl s)).take m)).length = k := by rw [← hm]; exact hk
  have h10 := fun w1 (b1 : Below w.heap.size w w1) => refName_any (s.extract 0 k) w1 (hT.below b1 (Nat.le_refl _)) (by rw [ByteArray.size_extract]; omega)
  rw [bl_to] at h10
  have h31 := fun w1 => refNumber_any (s.extract 0 k) w1 (by rw [ByteArray.size_extract]; omega)
  rw [bl_to] at h31
  have hkt : (bl s).take k = byt ((runes (bl s)).take m) := by rw [← hk, ← hm]; exact take_spb _
  have h32 := fun w1 => refSign_any s w1 h0
  rw [hr, hq] at h20
  simp only [hk, hm] at h21
  rw [hk] at hsp
  have hk0 : (0 : Int) ≤ (k : Int) := by omega
  have hk1 : (k : Int) ≤ (s.size : Int) := by omega
  unfold firstB
  by_cases hL : letter r = true
  · have hn := name_spb hne (by rw [hr]; exact hL)
    rw [hk, hm] at hn
    rw [hn] at h10
    rw [hL] at h12
    rw [if_pos hL] at hf
    by_cases h24 : m ≤ 24
    · rw [if_pos h24] at hf
      rw [decide_eq_true h24] at h10
      rw [hf]
      simp only [hkb]
      clear hr hq hk hm hf hkb hkt h31 h30 h32 hn hc hL
      go_enter Tryz.func71, Tryz.ntmps71
      go_wp2_with (first
        | (go_at_call 70; refine h20.mono ?_; rintro e w1 ⟨rfl, b1⟩; have h21' := h21 w1 b1; clear h20 h21)
        | (go_at_call 115; refine h21'.mono ?_; rintro e w2 ⟨rfl, b2⟩; have b3 := b1.trans (b2.mono b1.size); have h10' := h10 w2 b3; clear h21' b1 b2 h10)
        | (go_at_call 116; refine (h12 _).mono ?_; rintro e w' ⟨rfl, rfl⟩; clear h12)
        | (go_at_call 79; refine h10'.mono ?_; rintro e w4 ⟨rfl, b4⟩; have b5 := b3.trans (b4.mono b3.size); clear h10' b3 b4))
      go_ret3
      exact ⟨rfl, b5⟩
    · rw [if_neg h24] at hf
      rw [decide_eq_false h24] at h10
      rw [hf]
      clear hr hq hk hm hf hkb hkt h31 h30 h32 hn hc hL
      go_enter Tryz.func71, Tryz.ntmps71
      go_wp2_with (first
        | (go_at_call 70; refine h20.mono ?_; rintro e w1 ⟨rfl, b1⟩; have h21' := h21 w1 b1; clear h20 h21)
        | (go_at_call 115; refine h21'.mono ?_; rintro e w2 ⟨rfl, b2⟩; have b3 := b1.trans (b2.mono b1.size); have h10' := h10 w2 b3; clear h21' b1 b2 h10)
        | (go_at_call 116; refine (h12 _).mono ?_; rintro e w' ⟨rfl, rfl⟩; clear h12)
        | (go_at_call 79; refine h10'.mono ?_; rintro e w4 ⟨rfl, b4⟩; have b5 := b3.trans (b4.mono b3.size); clear h10' b3 b4))
      go_ret3
      exact ⟨rfl, b5⟩
  rw [if_neg hL] at hf
  rw [Bool.not_eq_true] at hL
  rw [hL] at h12
  by_cases hD : dgt r = true
  · have hn : numB ((bl s).take k) = numb ((runes (bl s)).take m) := by rw [hkt]; exact numB_numb _ (fun v hv => List.mem_of_mem_take hv)
    rw [hn] at h31
    rw [hD] at h30
    rw [if_pos hD] at hf
    cases hb : numb ((runes (bl s)).take m) with
    | true =>
      rw [hb] at h31
      rw [if_pos hb] at hf
      rw [hf]
      simp only [hkb]
      clear hr hq hk hm hf hkb hkt h10 h32 hn hc hL hD hb
      go_enter Tryz.func71, Tryz.ntmps71
      go_wp2_with (first
        | (go_at_call 70; refine h20.mono ?_; rintro e w1 ⟨rfl, b1⟩; have h21' := h21 w1 b1; clear h20 h21)
        | (go_at_call 115; refine h21'.mono ?_; rintro e w2 ⟨rfl, b2⟩; have b3 := b1.trans (b2.mono b1.size); clear h21' b1 b2)
        | (go_at_call 116; refine (h12 _).mono ?_; rintro e w' ⟨rfl, rfl⟩; clear h12)
        | (go_at_call 117; refine (h30 _).mono ?_; rintro e w' ⟨rfl, rfl⟩; clear h30)
        | (go_at_call 118; refine (h31 _).mono ?_; rintro e w' ⟨⟨x, rfl⟩, rfl⟩; clear h31))
      go_ret3
      exact ⟨rfl, b3⟩
    | false =>
      rw [hb] at h31
      rw [if_neg (by rw [hb]; decide)] at hf
      rw [hf]
      clear hr hq hk hm hf hkb hkt h10 h32 hn hc hL hD hb
      go_enter Tryz.func71, Tryz.ntmps71
      go_wp2_with (first
        | (go_at_call 70; refine h20.mono ?_; rintro e w1 ⟨rfl, b1⟩; have h21' := h21 w1 b1; clear h20 h21)
        | (go_at_call 115; refine h21'.mono ?_; rintro e w2 ⟨rfl, b2⟩; have b3 := b1.trans (b2.mono b1.size); clear h21' b1 b2)
        | (go_at_call 116; refine (h12 _).mono ?_; rintro e w' ⟨rfl, rfl⟩; clear h12)
        | (go_at_call 117; refine (h30 _).mono ?_; rintro e w' ⟨rfl, rfl⟩; clear h30)
        | (go_at_call 118; refine (h31 _).mono ?_; rintro e w' ⟨⟨x, rfl⟩, rfl⟩; clear h31))
      go_ret3
      exact ⟨rfl, b3⟩
  rw [if_neg hD] at hf
  rw [Bool.not_eq_true] at hD
  rw [hD] at h30
  have hsb := sgn_bytes (bl s)
  obtain ⟨g, hg⟩ : ∃ g, sgn (runes (bl s)) = g := ⟨_, rfl⟩
  rw [hg] at hf hsb
  simp only [hg] at h32
  by_cases h00 : g = 0
  · rw [if_pos h00] at hf
    rw [hf]
    subst h00
    clear hr hq hk hm hf hkb hkt h10 h31 hc hL hD hsb hg
    go_enter Tryz.func71, Tryz.ntmps71
    go_wp2_with (first
      | (go_at_call 70; refine h20.mono ?_; rintro e w1 ⟨rfl, b1⟩; have h21' := h21 w1 b1; clear h20 h21)
      | (go_at_call 115; refine h21'.mono ?_; rintro e w2 ⟨rfl, b2⟩; have b3 := b1.trans (b2.mono b1.size); clear h21' b1 b2)
      | (go_at_call 116; refine (h12 _).mono ?_; rintro e w' ⟨rfl, rfl⟩; clear h12)
      | (go_at_call 117; refine (h30 _).mono ?_; rintro e w' ⟨rfl, rfl⟩; clear h30)
      | (go_at_call 119; refine (h32 _).mono ?_; rintro e w' ⟨rfl, rfl⟩; clear h32))
    go_ret3
    exact ⟨rfl, b3⟩
  · rw [if_neg h00] at hf
    have hg0 : ((g : Int) == 0) = false := beq_eq_false_iff_ne.2 (by omega)
    rw [hf]
    simp only [hsb]
    clear hr hq hk hm hf hkb hkt h10 h31 hc hL hD hsb hg h00
    go_enter Tryz.func71, Tryz.ntmps71
    go_wp2_with (first
      | (go_at_call 70; refine h20.mono ?_; rintro e w1 ⟨rfl, b1⟩; have h21' := h21 w1 b1; clear h20 h21)
      | (go_at_call 115; refine h21'.mono ?_; rintro e w2 ⟨rfl, b2⟩; have b3 := b1.trans (b2.mono b1.size); clear h21' b1 b2)
      | (go_at_call 116; refine (h12 _).mono ?_; rintro e w' ⟨rfl, rfl⟩; clear h12)
      | (go_at_call 117; refine (h30 _).mono ?_; rintro e w' ⟨rfl, rfl⟩; clear h30)
      | (go_at_call 119; refine (h32 _).mono ?_; rintro e w' ⟨rfl, rfl⟩; clear h32))
    go_ret3
    exact ⟨rfl, b3⟩

end Go.Proofs.YtifgbioacknjpaaGreatDoor

/- What the document's Words does. -/
namespace Go.Proofs.YtifgbioacknjpaaGreatDoor
open Go.RowKit Go.Lib
set_option linter.unusedSimpArgs false
set_option linter.unusedVariables false
attribute [local go_sem ↓] Go.wp_at_zero Go.wp_at_succ

theorem Tryz.infoWord : (Tryz.prog.info? 139).map (fun i => (i.zero, i.size, i.bytes)) = some (some (.agg #[.int .i64 0, .string ⟨#[]⟩, .int .i64 0, .int .i64 0]), 4, 40) := by kernel_rfl

set_option maxRecDepth 100000 in
set_option maxHeartbeats 4000000 in
theorem refWords_any (s : ByteArray) (w : World) (hT : Tabs w) (hs : s.size ≤ 140737488351232) :
    Calls Tryz.prog 40 #[.string s] w fun e w' => ∃ u, e = .returned (.tuple #[u, .agg #[.int .i64 (wordsS (bl s)).2.1.1, .int .i64 (wordsS (bl s)).2.1.2], .int .i64 (wordsS (bl s)).2.2]) ∧ OwnW w' w.heap.size 139 u (wordsS (bl s)).1 ∧ Below w.heap.size w w' := by
  obtain ⟨i0, hi, hz0, hz1, hz2⟩ := info_parts Tryz.infoWord
  by_cases hlong : 12000 < s.size
  · rw [words_long (show 12000 < (bl s).length from hlong)]
    have e1 : (s.size : Int) > 12000 := by omega
    obtain ⟨x0, x1, x2, x3⟩ := At.new w (.int .i64 0) (.int .i64 0) 23 _ rfl
    have hA := ((At.new w (.int .i64 0) (.int .i64 0) 23 _ rfl).set0 (.int .i64 1)).set1 (.int .i64 1)
    obtain ⟨y0, y1, y2, y3⟩ := id hA
    go_enter Tryz.func40, Tryz.ntmps40
    go_wp2
    exact bodyPost_ret (v := .tuple #[.slice none 0 0, .agg #[.int .i64 1, .int .i64 1], .int .i64 4]) (by simp [results, Tryz.results40, go_sem]) rfl ⟨_, rfl, ownW_nil _ _ _, by first | exact (Below.refl _ _).alloc (Nat.le_refl _) _ | exact (((Below.refl _ _).alloc (Nat.le_refl _) _).setCell (by simp) _).setCell (by simp) _⟩
  have e1 : ¬ (s.size : Int) > 12000 := by omega
  obtain ⟨⟨X, ⟨pL, pC⟩, er⟩, hE⟩ : ∃ x, wordsS (bl s) = x := ⟨_, rfl⟩
  rw [hE]
  have HE : Hid (comb [] (wrds (runes (bl s)) 1 1 0) = (X, (pL, pC), er)) := by
    show comb [] (wrds (runes (bl s)) 1 1 0) = (X, (pL, pC), er)
    rw [comb_nil, ← hE]
    unfold wordsS
    rw [if_neg (show ¬ 12000 < (bl s).length from hlong)]
  clear hE
  go_enter Tryz.func40, Tryz.ntmps40
  go_wp2
  go_loopw [0, 5] (fun u o wr => ∃ (s' : ByteArray) (ln co : Int) (acc : List Wd), u = .string s' ∧ s'.size ≤ s.size ∧ Hid (comb acc (wrds (runes (bl s')) ln co acc.length) = (X, (pL, pC), er)) ∧ 1 ≤ ln ∧ 1 ≤ co ∧ ln + s'.size ≤ 1 + s.size ∧ co + s'.size ≤ 1 + s.size ∧ acc.length ≤ 3000 ∧
    OwnW wr (w.heap.size + 2) 139 o acc ∧ At wr (w.heap.size + 1) (.int .i64 ln) (.int .i64 co) ∧ (∃ a b, At wr w.heap.size a b) ∧ w.heap.size + 2 ≤ wr.heap.size ∧ Below w.heap.size w wr) (fun u _ _ => szOf u)
  case atStart =>
    exact ⟨s, 1, 1, [], rfl, by omega, HE, by omega, by omega, by omega, by omega, by simp, ownW_nil _ _ _, At.new _ _ _ _ _ (by simp), ⟨_, _, (At.new w (.int .i64 0) (.int .i64 0) 23 _ rfl).keep ((Below.refl _ _).alloc (Nat.le_refl _) _)⟩, by simp, ((Below.refl _ _).alloc (Nat.le_refl _) _).alloc (by simp) _⟩
  case round =>
    obtain ⟨s', ln, co, acc, rfl, hsz, hv, hl1, hc1, hl2, hc2, hacc, ho, hA, ⟨a, b, hR⟩, hsize, hb⟩ := hrel
    have hTr := hT.below hb (Nat.le_refl _)
    obtain ⟨y0, y1, y2, y3⟩ := id hA
    obtain ⟨z0, z1, z2, z3⟩ := id hR
    by_cases hz : 0 < s'.size
    · have e2 : (s'.size : Int) > 0 := by omega
      have e3 : (0 : Int) < (s'.size : Int) := by omega
      have e4 : (1 : Int) ≤ (s'.size : Int) := by omega
      obtain ⟨c, r, hl⟩ : ∃ c r, bl s' = c :: r := by
        match hbl : bl s' with
        | [] => have := bl_length s'; rw [hbl] at this; simp at this; omega
        | c :: r => exact ⟨c, r, rfl⟩
      have hs0 : s'[0] = c := by rw [get_bl]; simp [hl]
      have hf1 : bl (s'.extract 1 s'.size) = r := by rw [bl_from, hl]; rfl
      have hsx1 : (s'.extract 1 s'.size).size = s'.size - 1 := by rw [ByteArray.size_extract]; omega
      have hvv := hv.out
      rw [hl] at hvv
      by_cases c10 : c.toNat = 10
      · have g10 : ((c.toNat : Int) == 10) = true := by simp; omega
        rw [runes_small r (k := 10) (by omega) c10, wrds_cons, if_pos (by rfl)] at hvv
        have hn : Hid (comb acc (wrds (runes (bl (s'.extract 1 s'.size))) (ln + 1) 1 acc.length) = (X, (pL, pC), er)) := by rw [hf1]; exact hvv
        clear hvv hl hf1 hT hTr c10
        go_wp2
        go_roundw
        case rel =>
          exact ⟨_, ln + 1, 1, acc, rfl, by omega, hn, by omega, by omega, by omega, by omega, hacc, (ho.set (by simp) _).set (by simp) _, (hA.set0 _).set1 _, ⟨a, b, (hR.far (by omega) _).far (by omega) _⟩, by simpa using hsize, (hb.setCell (by simp) _).setCell (by simp) _⟩
        case measure => simp [szOf]; omega
      have g10 : ((c.toNat : Int) == 10) = false := beq_eq_false_iff_ne.2 (by omega)
      by_cases c32 : c.toNat = 32 ∨ c.toNat = 9
      · have hn : Hid (comb acc (wrds (runes (bl (s'.extract 1 s'.size))) ln (co + 1) acc.length) = (X, (pL, pC), er)) := by
          rw [hf1]
          rcases c32 with h | h
          · rw [runes_small r (k := 32) (by omega) h, wrds_cons, if_neg (by simp), if_pos (by simp)] at hvv; exact hvv
          · rw [runes_small r (k := 9) (by omega) h, wrds_cons, if_neg (by simp), if_pos (by simp)] at hvv; exact hvv
        clear hvv hl hf1 hT hTr
        rcases c32 with h | h
        · have g32 : ((c.toNat : Int) == 32) = true := by simp; omega
          clear h
          go_wp2
          go_roundw
          case rel =>
            exact ⟨_, ln, co + 1, acc, rfl, by omega, hn, by omega, by omega, by omega, by omega, hacc, ho.set (by simp) _, hA.set1 _, ⟨a, b, hR.far (by omega) _⟩, by simpa using hsize, hb.setCell (by simp) _⟩
          case measure => simp [szOf]; omega
        · have g32 : ((c.toNat : Int) == 32) = false := beq_eq_false_iff_ne.2 (by omega)
          have g9 : ((c.toNat : Int) == 9) = true := by simp; omega
          clear h
          go_wp2
          go_roundw
          case rel =>
            exact ⟨_, ln, co + 1, acc, rfl, by omega, hn, by omega, by omega, by omega, by omega, hacc, ho.set (by simp) _, hA.set1 _, ⟨a, b, hR.far (by omega) _⟩, by simpa using hsize, hb.setCell (by simp) _⟩
          case measure => simp [szOf]; omega
      have g32 : ((c.toNat : Int) == 32) = false := beq_eq_false_iff_ne.2 (by omega)
      have g9 : ((c.toNat : Int) == 9) = false := beq_eq_false_iff_ne.2 (by omega)
      by_cases c35 : c.toNat = 35
      · have g35 : ((c.toNat : Int) == 35) = true := by simp; omega
        obtain ⟨R, hRR⟩ : ∃ R, R = runes (bl s') := ⟨_, rfl⟩
        have hp1 : 1 ≤ rest R := by rw [hRR, hl, runes_small r (k := 35) (by omega) c35]; exact rest_pos (by simp)
        have hN : Hid (comb acc (wrds (R.drop (rest R)) ln (co + rest R) acc.length) = (X, (pL, pC), er)) := by
          have h5 := hvv
          rw [← hl, ← hRR] at h5
          have h6 : R = (((35 : Nat) : Int), [c]) :: runes r := by rw [hRR, hl, runes_small r (k := 35) (by omega) c35]
          rw [h6] at h5 ⊢
          rw [wrds_cons, if_neg (by simp), if_neg (by simp), if_pos (by simp)] at h5
          exact h5
        have H0 : Hid (Rem R 0 (bl s')) := by rw [hRR]; exact Rem.zero
        clear hvv hl hf1 c35 c32 hRR y0 y1 y2 y3 z0 z1 z2 z3
        go_wp2
        go_loopw [0] (fun u wq => ∃ (s2 : ByteArray) (j : Nat), u = .string s2 ∧ j + s2.size ≤ s'.size ∧ Hid (Rem R j (bl s2)) ∧ OwnW wq (w.heap.size + 2) 139 u5 acc ∧ At wq (w.heap.size + 1) (.int .i64 ln) (.int .i64 (co + j)) ∧ (∃ a b, At wq w.heap.size a b) ∧ w.heap.size + 2 ≤ wq.heap.size ∧ Below w.heap.size w wq) (fun u _ => szOf u)
        case atStart => exact ⟨s', 0, rfl, by omega, H0, ho, by simpa using hA, ⟨a, b, hR⟩, hsize, hb⟩
        case round =>
          obtain ⟨s2, j, rfl, hj, hM, ho2, hA2, ⟨a2, b2, hR2⟩, hsz2, hb2⟩ := hrel
          have hT2 := hT.below hb2 (Nat.le_refl _)
          obtain ⟨y0, y1, y2, y3⟩ := id hA2
          by_cases hz3 : 0 < s2.size
          · have f2 : (s2.size : Int) > 0 := by omega
            have f3 : (0 : Int) < (s2.size : Int) := by omega
            obtain ⟨d, r2, hl2⟩ : ∃ d r2, bl s2 = d :: r2 := by
              match hbl : bl s2 with
              | [] => have := bl_length s2; rw [hbl] at this; simp at this; omega
              | d :: r2 => exact ⟨d, r2, rfl⟩
            have hd0 : s2[0] = d := by rw [get_bl]; simp [hl2]
            have hMM := hM.out
            rw [hl2] at hMM
            by_cases d10 : d.toNat = 10
            · have f10 : ((d.toNat : Int) != 10) = false := by simp; omega
              have hE := hMM.stop d10
              have hn : Hid (comb acc (wrds (runes (bl s2)) ln (co + (j : Int)) acc.length) = (X, (pL, pC), er)) := by
                have := hN.out
                rw [hE, ← hM.out.left] at this
                exact this
              clear hMM hl2 hT2 d10
              go_wp2
              go_roundw
              case rel => exact ⟨_, ln, co + j, acc, rfl, by omega, hn, by omega, by omega, by omega, by omega, hacc, ho2, hA2, ⟨a2, b2, hR2⟩, hsz2, hb2⟩
              case measure => simp [szOf]; omega
            · have f10 : ((d.toNat : Int) != 10) = true := by simp; omega
              have hst := hMM.step d10
              rw [← hl2] at hst
              have hne : bl s2 ≠ [] := by rw [hl2]; simp
              have h20 := refNext_any s2 _ hT2
              have hps := nx_pos hne
              have hnl := nx_le hne
              rw [bl_length] at hnl
              have hfr := bl_from s2 (nx (bl s2)).2
              obtain ⟨x, hx⟩ : ∃ x, (nx (bl s2)).1 = x := ⟨_, rfl⟩
              obtain ⟨q, hq⟩ : ∃ q, (nx (bl s2)).2 = q := ⟨_, rfl⟩
              rw [hx, hq] at h20
              rw [hq] at hps hnl hfr hst
              have hq0 : (0 : Int) ≤ (q : Int) := by omega
              have hq1 : (q : Int) ≤ (s2.size : Int) := by omega
              have hsx : (s2.extract q s2.size).size = s2.size - q := by rw [ByteArray.size_extract]; omega
              have hn : Hid (Rem R (j + 1) (bl (s2.extract q s2.size))) := by rw [hfr]; exact hst
              have hw1 : IntKind.i64.wrap (co + (j : Int) + 1) = co + j + 1 := by rw [IntKind.wrap_i64]; omega
              clear hMM hl2 hT2 d10 hst hne hfr hx hq
              go_wp2_with (first
                | (go_at_call 70; refine h20.mono ?_; rintro e w1 ⟨rfl, b1⟩; have hA3 := hA2.keep b1; have hR3 := hR2.keep b1; have ho3 := ho2.below b1 (Nat.le_refl _); obtain ⟨v0, v1, v2, v3⟩ := id hA3; have bb := hb2.trans (b1.mono hb2.size); have hsz3 : w.heap.size + 2 ≤ w1.heap.size := Nat.le_trans hsz2 b1.size; clear h20 hA2 hR2 hb2 ho2 y0 y1 y2 y3))
              go_roundw
              case rel => exact ⟨_, j + 1, rfl, by omega, hn, ho3.set (by simp) _, by have := hA3.set1 (.int .i64 (co + (j : Int) + 1)); rw [show co + ((j + 1 : Nat) : Int) = co + (j : Int) + 1 by omega]; exact this, ⟨a2, b2, hR3.far (by omega) _⟩, by simpa using hsz3, bb.setCell (by simp) _⟩
              case measure => simp [szOf]; omega
          · have f2 : ¬ (s2.size : Int) > 0 := by omega
            have hnil : bl s2 = [] := List.eq_nil_of_length_eq_zero (by rw [bl_length]; omega)
            have hMM := hM.out
            rw [hnil] at hMM
            have hE := hMM.stop_nil
            have hn : Hid (comb acc (wrds (runes (bl s2)) ln (co + (j : Int)) acc.length) = (X, (pL, pC), er)) := by
              have := hN.out
              rw [hE, ← hM.out.left] at this
              exact this
            clear hMM hnil hT2
            go_wp2
            go_roundw
            case rel => exact ⟨_, ln, co + j, acc, rfl, by omega, hn, by omega, by omega, by omega, by omega, hacc, ho2, hA2, ⟨a2, b2, hR2⟩, hsz2, hb2⟩
            case measure => simp [szOf]; omega
      have g35 : ((c.toNat : Int) == 35) = false := beq_eq_false_iff_ne.2 (by omega)
      have h23 := refFirst_any s' _ hTr (by omega) hz
      have hcs := runes_cons (l := c :: r) (by simp)
      have n10 : ¬ (nx (c :: r)).1 = 10 := fun e => c10 ((head_is c r (k := 10) (by omega)).1 e)
      have n32 : ¬ ((nx (c :: r)).1 = 32 ∨ (nx (c :: r)).1 = 9) := fun e => c32 (e.elim (fun e => .inl ((head_is c r (k := 32) (by omega)).1 e)) (fun e => .inr ((head_is c r (k := 9) (by omega)).1 e)))
      have n35 : ¬ (nx (c :: r)).1 = 35 := fun e => c35 ((head_is c r (k := 35) (by omega)).1 e)
      rw [hcs, wrds_cons, if_neg n10, if_neg n32, if_neg n35, ← hcs, ← hl] at hvv
      have hfl : (fst1 (runes (bl s'))).1 ≠ 0 → 1 ≤ (fst1 (runes (bl s'))).2 ∧ (fst1 (runes (bl s'))).2 ≤ (runes (bl s')).length := by rw [hl, hcs]; exact fst1_le _ _
      obtain ⟨K, hK⟩ : ∃ K, (fst1 (runes (bl s'))).1 = K := ⟨_, rfl⟩
      obtain ⟨m, hm⟩ : ∃ m, (fst1 (runes (bl s'))).2 = m := ⟨_, rfl⟩
      obtain ⟨n, hn⟩ : ∃ n, firstB (bl s') = n := ⟨_, rfl⟩
      have hn2 : (byt ((runes (bl s')).take m)).length = n := by rw [← hn, ← hm]; rfl
      rw [hK, hm] at hvv hfl h23
      rw [hn] at h23
      by_cases k0 : K = 0
      · rw [if_pos k0, comb_err _ _ _ (by decide)] at hvv
        simp only [Prod.mk.injEq] at hvv
        obtain ⟨rfl, ⟨rfl, rfl⟩, rfl⟩ := hvv
        subst k0
        clear hl hf1 hcs n10 n32 n35 hfl hK hm hn hn2 c10 c32 c35 hT hTr y0 y1 y2 y3 z0 z1 z2 z3
        go_wp2_with (first
          | (go_at_call 71; refine h23.mono ?_; rintro e w1 ⟨rfl, b1⟩; have hA3 := hA.keep b1; have hR3 := hR.keep b1; obtain ⟨y0, y1, y2, y3⟩ := id hA3; obtain ⟨z0, z1, z2, z3⟩ := id hR3; have bb := hb.trans (b1.mono hb.size); clear h23 hA hR hb ho))
        have hQ := (hR3.set0 (.int .i64 ln)).set1 (.int .i64 co)
        obtain ⟨q0, q1, q2, q3⟩ := id hQ
        have bq : Below w.heap.size w ((w1.setCell ⟨w.heap.size, 0, none⟩ (.int .i64 ln)).setCell ⟨w.heap.size, 1, none⟩ (.int .i64 co)).drew := ((bb.setCell (by simp) _).setCell (by simp) _).drew
        clear hQ hA3 hR3
        go_region
        all_goals go_wp2
        all_goals exact bodyPost_ret (v := .tuple #[.slice none 0 0, .agg #[.int .i64 ln, .int .i64 co], .int .i64 11]) (by simp [results, Tryz.results40, go_sem, q0, q1]) rfl ⟨_, rfl, ownW_nil _ _ _, bq⟩
      have hk0 : ((K : Int) == 0) = false := beq_eq_false_iff_ne.2 (by omega)
      obtain ⟨hm1, hm2⟩ := hfl k0
      rw [if_neg k0] at hvv
      by_cases a3 : acc.length = 3000
      · rw [if_pos a3, comb_err _ _ _ (by decide)] at hvv
        simp only [Prod.mk.injEq] at hvv
        obtain ⟨rfl, ⟨rfl, rfl⟩, rfl⟩ := hvv
        have hlen : ∃ ao ac, u5 = .slice ao acc.length ac := by
          rcases ho.2 with ⟨h, h2⟩ | ⟨g, cp, _, h, _⟩
          · exact ⟨none, 0, by rw [h, h2]⟩
          · exact ⟨_, _, h⟩
        obtain ⟨ao, ac, rfl⟩ := hlen
        have h3 : ((acc.length : Int) == 3000) = true := by simp; omega
        clear hl hf1 hcs n10 n32 n35 hfl hK hm hn hn2 c10 c32 c35 hT hTr y0 y1 y2 y3 z0 z1 z2 z3 k0 a3
        go_wp2_with (first
          | (go_at_call 71; refine h23.mono ?_; rintro e w1 ⟨rfl, b1⟩; have hA3 := hA.keep b1; have hR3 := hR.keep b1; obtain ⟨y0, y1, y2, y3⟩ := id hA3; obtain ⟨z0, z1, z2, z3⟩ := id hR3; have bb := hb.trans (b1.mono hb.size); clear h23 hA hR hb ho))
        have hQ := (hR3.set0 (.int .i64 ln)).set1 (.int .i64 co)
        obtain ⟨q0, q1, q2, q3⟩ := id hQ
        have bq : Below w.heap.size w ((w1.setCell ⟨w.heap.size, 0, none⟩ (.int .i64 ln)).setCell ⟨w.heap.size, 1, none⟩ (.int .i64 co)).drew := ((bb.setCell (by simp) _).setCell (by simp) _).drew
        clear hQ hA3 hR3
        go_region
        all_goals go_wp2
        all_goals exact bodyPost_ret (v := .tuple #[.slice none 0 0, .agg #[.int .i64 ln, .int .i64 co], .int .i64 4]) (by simp [results, Tryz.results40, go_sem, q0, q1]) rfl ⟨_, rfl, ownW_nil _ _ _, bq⟩
      rw [if_neg a3, comb_pre] at hvv
      have hge := byt_ge (l := bl s') ((runes (bl s')).take m) (fun v hv => List.mem_of_mem_take hv)
      rw [List.length_take, Nat.min_eq_left hm2, hn2] at hge
      have hspl := byt_split (runes (bl s')) m
      rw [byt_runes _ _ (Nat.le_refl _), hn2, bl_length] at hspl
      have hrd := runes_drop m (bl s') hm2
      rw [hn2, ← bl_from] at hrd
      have htx := txt_eq s' m
      rw [hn2] at htx
      obtain ⟨seg, hseg⟩ : ∃ seg, (runes (bl s')).take m = seg := ⟨_, rfl⟩
      rw [hseg] at hvv htx
      have hN : Hid (comb (acc ++ [(K, seg, ln, co)]) (wrds (runes (bl (s'.extract n s'.size))) ln (co + (m : Int)) (acc ++ [((K, seg, ln, co) : Wd)]).length) = (X, (pL, pC), er)) := by
        rw [hrd, List.length_append]; exact hvv
      have hq0 : (0 : Int) ≤ (n : Int) := by omega
      have hq1 : (n : Int) ≤ (s'.size : Int) := by omega
      have hsx : (s'.extract n s'.size).size = s'.size - n := by rw [ByteArray.size_extract]; omega
      have hw1 : IntKind.i64.wrap (co + (m : Int)) = co + m := by rw [IntKind.wrap_i64]; omega
      have hlen : ∃ ao ac, u5 = .slice ao acc.length ac := by
        rcases ho.2 with ⟨h, h2⟩ | ⟨g, cp, _, h, _⟩
        · exact ⟨none, 0, by rw [h, h2]⟩
        · exact ⟨_, _, h⟩
      obtain ⟨ao, ac, hu5⟩ := hlen
      have h3 : ((acc.length : Int) == 3000) = false := beq_eq_false_iff_ne.2 (by omega)
      have hac : acc.length < 3000 := by omega
      clear hl hf1 hcs n10 n32 n35 hfl hK hm hn hn2 c10 c32 c35 hT hTr y0 y1 y2 y3 z0 z1 z2 z3 k0 a3 hvv hrd hseg hspl
      subst hu5
      go_wp2_with (first
        | (go_at_call 71; refine h23.mono ?_; rintro e w1 ⟨rfl, b1⟩; have hA3 := hA.keep b1; have hR3 := hR.keep b1; have ho3 := ho.below b1 (Nat.le_refl _); obtain ⟨y0, y1, y2, y3⟩ := id hA3; have bb := hb.trans (b1.mono hb.size); have hsz3 : w.heap.size + 2 ≤ w1.heap.size := Nat.le_trans hsize b1.size; clear h23 hA hR hb ho))
      go_region_held_law (fun w' => w'.cell? ⟨w.heap.size + 1, 0, none⟩ = some (.int .i64 ln) ∧ w'.cell? ⟨w.heap.size + 1, 1, none⟩ = some (.int .i64 co))
        (first | exact ⟨y0, y1⟩ | exact ⟨p0, p1⟩ | go_keep)
        ((refine step_append_both _ (by rfl) (.tmp 74) (.tmp 81) 86 86 (by rfl) (w.heap.size + 2) 139 i0 (.agg #[.int .i64 0, .string ⟨#[]⟩, .int .i64 0, .int .i64 0]) 4 40 Tryz.underlying86 hi hz0 hz1 hz2 rfl _ acc.length _ (by rfl) ((World.ownsRow.alloc ho3 _).drew) _ 1 (celW (K, seg, ln, co)) (by rfl) (src_word_drew Tryz.underlying86 w1 (K, seg, ln, co)) 1 (.inr (by omega)) (Nat.le_refl _) (by unfold maxLen; omega) (by simp; omega) ?_; intro v4 w4 ho4 hg4 _; have bel4 : Below (w.heap.size + 2) w1 w4 := (((Below.refl _ _).alloc hsz3 _).drew).grown hg4 (by simp; omega) (fun k hk => (World.ownsRow.lt ho3 k hk).1); obtain ⟨p0, p1, p2, p3⟩ := hA3.keepB bel4 (by omega)))
      have hA4 : At w4 (w.heap.size + 1) (.int .i64 ln) (.int .i64 co) := ⟨p0, p1, p2, p3⟩
      have hR4 := hR3.keepB bel4 (by omega)
      have b4 := bb.trans (bel4.mono (by omega))
      have ho5 := ownW_snoc ho4
      have hsz4 : w.heap.size + 2 ≤ w4.heap.size := Nat.le_trans hsz3 bel4.size
      clear ho4 hg4 ho3 hA3 hR3 bel4 bb y0 y1 y2 y3 htx
      go_wp2
      go_roundw
      case rel =>
        exact ⟨_, ln, co + m, acc ++ [(K, seg, ln, co)], rfl, by omega, hN, by omega, by omega, by omega, by omega, by simp; omega, ho5.set (by simp) _, hA4.set1 _, ⟨a, b, hR4.far (by omega) _⟩, by simpa using hsz4, b4.setCell (by simp) _⟩
      case measure => simp [szOf]; omega
    · have e2 : ¬ (s'.size : Int) > 0 := by omega
      have hnil : bl s' = [] := List.eq_nil_of_length_eq_zero (by rw [bl_length]; omega)
      have hvv := hv.out
      rw [hnil, runes_nil, comb_end] at hvv
      simp only [Prod.mk.injEq] at hvv
      obtain ⟨rfl, ⟨rfl, rfl⟩, rfl⟩ := hvv
      have hA2 := (hR.set0 (.int .i64 0)).set1 (.int .i64 0)
      obtain ⟨q0, q1, q2, q3⟩ := id hA2
      have b2 : Below w.heap.size w ((wr.setCell ⟨w.heap.size, 0, none⟩ (.int .i64 0)).setCell ⟨w.heap.size, 1, none⟩ (.int .i64 0)) := (hb.setCell (by simp) _).setCell (by simp) _
      have o2 := (ho.set (a := ⟨w.heap.size, 0, none⟩) (by simp) (.int .i64 0)).set (a := ⟨w.heap.size, 1, none⟩) (by simp) (.int .i64 0)
      clear hnil hT hTr hA hR hA2 hv HE ho
      go_wp2
      exact bodyPost_ret (v := .tuple #[u5, .agg #[.int .i64 0, .int .i64 0], .int .i64 0]) (by simp [results, Tryz.results40, go_sem, q0, q1]) rfl ⟨_, rfl, o2.base (by omega), b2⟩

/-- The reader in block X stands where r does. -/
def Pr (w : World) (X : Nat) (a : Option Addr) (cap : Nat) (ws : List Wd) (fin : Pl) (r : RsC) : Prop :=
  ∃ n, Rr w X a cap ws n r.2.2 ∧ r.1 = ws.drop n ∧ n ≤ ws.length ∧ (r.2.2 ≠ 0 → r.2.1 = hereR fin r)
theorem Pr.lt {w : World} {X : Nat} {a : Option Addr} {cap : Nat} {ws : List Wd} {fin : Pl} {r : RsC} (h : Pr w X a cap ws fin r) : X < w.heap.size := by
  obtain ⟨n, h, _⟩ := h
  exact h.lt
theorem Pr.on {w w' : World} {X : Nat} {a : Option Addr} {cap : Nat} {ws : List Wd} {fin : Pl} {r : RsC} (h : Pr w X a cap ws fin r) (hb : Below w.heap.size w w') : Pr w' X a cap ws fin r := by
  obtain ⟨n, h1, h2, h3, h4⟩ := h
  exact ⟨n, h1.on hb, h2, h3, h4⟩
theorem Pr.far {w : World} {X Y i : Nat} {a : Option Addr} {cap : Nat} {ws : List Wd} {fin : Pl} {r : RsC} (h : Pr w X a cap ws fin r) (hY : X < Y) (u : Value) : Pr (w.setCell ⟨Y, i, none⟩ u) X a cap ws fin r := by
  obtain ⟨n, h1, h2, h3, h4⟩ := h
  exact ⟨n, h1.far hY u, h2, h3, h4⟩
theorem drop_cons {ws : List Wd} {n : Nat} {x : Wd} {l : List Wd} (h : x :: l = ws.drop n) : n < ws.length ∧ l = ws.drop (n + 1) ∧ ∀ hn : n < ws.length, ws[n] = x := by
  have hn : n < ws.length := by
    rcases Nat.lt_or_ge n ws.length with h' | h'
    · exact h'
    · rw [List.drop_eq_nil_of_le h'] at h; cases h
  rw [List.drop_eq_getElem_cons hn] at h
  injection h with h1 h2
  exact ⟨hn, h2, fun _ => h1.symm⟩
theorem drop_nil {ws : List Wd} {n : Nat} (h : [] = ws.drop n) (hn : n ≤ ws.length) : n = ws.length := by
  have := congrArg List.length h
  rw [List.length_drop] at this
  simp at this
  omega
/-- A fault is kept. -/
theorem Pr.bad {w : World} {X n : Nat} {a : Option Addr} {cap : Nat} {ws : List Wd} {fin : Pl} {r : RsC} {e : Int} (h : Rr w X a cap ws n (if r.2.2 = 0 then e else r.2.2)) (h1 : r.1 = ws.drop n) (h2 : n ≤ ws.length) (h3 : r.2.2 ≠ 0 → r.2.1 = hereR fin r) : Pr w X a cap ws fin (failC e (hereR fin r) r) := by
  unfold failC
  by_cases h0 : r.2.2 = 0
  · rw [if_pos h0] at h ⊢
    exact ⟨n, h, h1, h2, fun _ => rfl⟩
  · rw [if_neg h0] at h ⊢
    exact ⟨n, h, h1, h2, h3⟩
/-- A word is taken. -/
theorem Pr.step {w : World} {X n : Nat} {a : Option Addr} {cap : Nat} {ws : List Wd} {fin : Pl} {r : RsC} {x : Wd} {l : List Wd} (h : Rr w X a cap ws (n + 1) r.2.2) (h1 : x :: l = ws.drop n) (h0 : r.2.2 = 0) : Pr w X a cap ws fin (l, r.2) := by
  obtain ⟨hn, hl, _⟩ := drop_cons h1
  exact ⟨n + 1, h, hl, hn, fun e => absurd h0 e⟩

end Go.Proofs.YtifgbioacknjpaaGreatDoor

/- Contracts of the library at this program. -/
namespace Go.Proofs.YtifgbioacknjpaaGreatDoor
open Go.Shelf
set_option linter.unusedVariables false

def renA : Ren := { f := fun x => match x with | 172 => 127 | 244 => 150 | 245 => 151 | 247 => 167 | 279 => 168 | 280 => 169 | 281 => 170 | 282 => 171 | 287 => 186 | 316 => 59 | 171 => 37 | 205 => 187 | 321 => 196 | 322 => 197 | 243 => 67 | 246 => 68 | 283 => 109 | 284 => 110 | 285 => 111 | 286 => 112 | 129 => 139 | 317 => 138 | 318 => 140 | 319 => 141 | 320 => 142 | 337 => 158 | 338 => 159 | n => n, t := fun x => match x with | 9 => 9 | 3 => 3 | 75 => 190 | 76 => 191 | 4 => 4 | 5 => 5 | 167 => 233 | 37 => 70 | 0 => 0 | 85 => 234 | 2 => 2 | 168 => 236 | 53 => 176 | 175 => 256 | 46 => 209 | 210 => 259 | 127 => 129 | 145 => 271 | 143 => 269 | 21 => 21 | 171 => 175 | 173 => 179 | 212 => 206 | 51 => 207 | 20 => 20 | 213 => 208 | 232 => 247 | 233 => 248 | 80 => 76 | n => n, g := fun x => match x with | 15 => 5 | 16 => 6 | 17 => 0 | 18 => 3 | 19 => 4 | n => n }
end Go.Proofs.YtifgbioacknjpaaGreatDoor

/- What the program's word, name and number do. -/
namespace Go.Proofs.YtifgbioacknjpaaGreatDoor
open Go.RowKit Go.Lib
set_option linter.unusedSimpArgs false
set_option linter.unusedVariables false
attribute [local go_sem ↓] Go.wp_at_zero Go.wp_at_succ

theorem Rr.put4 {w : World} {X N : Nat} {a : Option Addr} {cap : Nat} {ws : List Wd} {n : Nat} {b : Int} (h : Rr w X a cap ws n b) (hN : X < N) (c0 c1 c2 c3 : Value) : Rr (put4 w N c0 c1 c2 c3) X a cap ws n b := (((h.far hN c0).far hN c1).far hN c2).far hN c3

theorem Pr.word {w : World} {X : Nat} {a : Option Addr} {cap : Nat} {ws : List Wd} {fin : Pl} {r : RsC} (h : Pr w X a cap ws fin r) (hk : Wk ws cap) {x : Wd} {l : List Wd} (hr : r.1 = x :: l) : OneW x.1 x.2.1 := by
  obtain ⟨n, _, h2, _⟩ := h
  rw [hr] at h2
  obtain ⟨hn, _, hx⟩ := drop_cons h2
  rw [← hx hn]
  exact hk.o _ (List.getElem_mem hn)
/-- What strconv.ErrSyntax holds. -/
def Ey (w : World) (X : Nat) : Prop := (∃ ev, w.cell? ⟨renA.g 15, 0, none⟩ = some ev ∧ (ev = .nilIface ∨ ∃ te pe, ev = .iface te pe)) ∧ renA.g 15 < X
theorem Ey.fx {w w' : World} {X : Nat} (h : Ey w X) (hf : Fx X w w') : Ey w' X := by
  obtain ⟨⟨ev, h1, h2⟩, h3⟩ := h
  have hlt : renA.g 15 < w.heap.size := World.block_lt_of_cell? w _ h1
  exact ⟨⟨ev, keep_cell (p := ⟨renA.g 15, 0, none⟩) (hf.block _ hlt (fun e => by have : renA.g 15 = X := Option.some.inj e; omega)) h1, h2⟩, h3⟩
theorem Ey.on {w w' : World} {X : Nat} (h : Ey w X) (hb : Below w.heap.size w w') : Ey w' X := h.fx (Fx.of hb (Nat.le_refl _))
theorem Ey.far {w : World} {X Y i : Nat} (h : Ey w X) (hY : X < Y) (u : Value) : Ey (w.setCell ⟨Y, i, none⟩ u) X := by
  obtain ⟨⟨ev, h1, h2⟩, h3⟩ := h
  exact ⟨⟨ev, cell_far4 (by omega) h1, h2⟩, h3⟩





/-- Where the reader stands. -/
def nxt (w : World) (X : Nat) : Nat := match w.cell? ⟨X, 1, none⟩ with | some (.int _ n) => n.toNat | _ => 0
theorem Pr.left {w : World} {X : Nat} {a : Option Addr} {cap : Nat} {ws : List Wd} {fin : Pl} {r : RsC} (h : Pr w X a cap ws fin r) : ws.length - nxt w X = r.1.length := by
  obtain ⟨n, h1, h2, h3, _⟩ := h
  unfold nxt
  rw [h1.c1, h2, List.length_drop]
  rfl
theorem Pr.len {w : World} {X : Nat} {a : Option Addr} {cap : Nat} {ws : List Wd} {fin : Pl} {r : RsC} (h : Pr w X a cap ws fin r) : r.1.length ≤ ws.length := by
  obtain ⟨n, h1, h2, h3, _⟩ := h
  rw [h2, List.length_drop]
  omega
theorem Rr.keepB {w w' : World} {X B : Nat} {a : Option Addr} {cap : Nat} {ws : List Wd} {n : Nat} {b : Int} (h : Rr w X a cap ws n b) (hb : Below B w w') (hX : X < B) : Rr w' X a cap ws n b := by
  have hc : ∀ i, w'.cell? ⟨X, i, none⟩ = w.cell? ⟨X, i, none⟩ := fun i => hb.cell (p := ⟨X, i, none⟩) hX
  have hf : ∀ i, w'.frozen? ⟨X, i, none⟩ = w.frozen? ⟨X, i, none⟩ := fun i => hb.frozen (p := ⟨X, i, none⟩) hX
  refine ⟨(hc 0).trans h.c0, (hc 1).trans h.c1, (hc 2).trans h.c2, (hf 1).trans h.f1, (hf 2).trans h.f2, fun i hi => ?_⟩
  obtain ⟨g, off, h1, h2, d0, d1, d2, d3⟩ := h.l i hi
  have hg : g < B := Nat.lt_trans h2 hX
  exact ⟨g, off, h1, h2, (hb.cell (p := ⟨g, off + i * 4, none⟩) hg).trans d0, (hb.cell (p := ⟨g, off + i * 4 + 1, none⟩) hg).trans d1, (hb.cell (p := ⟨g, off + i * 4 + 2, none⟩) hg).trans d2, (hb.cell (p := ⟨g, off + i * 4 + 3, none⟩) hg).trans d3⟩
theorem Pr.belowB {w w' : World} {X B : Nat} {a : Option Addr} {cap : Nat} {ws : List Wd} {fin : Pl} {r : RsC} (h : Pr w X a cap ws fin r) (hb : Below B w w') (hX : X < B) : Pr w' X a cap ws fin r := by
  obtain ⟨n, h1, h2, h3, h4⟩ := h
  exact ⟨n, h1.keepB hb hX, h2, h3, h4⟩
theorem Tryz.infoSet : (Tryz.prog.info? 118).map (fun i => (i.zero, i.size, i.bytes)) = some (some (.agg #[.string ⟨#[]⟩, .nilIface]), 2, 32) := by kernel_rfl
end Go.Proofs.YtifgbioacknjpaaGreatDoor
