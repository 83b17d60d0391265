
/- Rows of expressions that are left to be asked: in memory, popped, grown. -/
import Derived.Test.YtiddccohldjjcaaDoorPxT
import Derived.WalkSmall
namespace Go.Proofs.YtiddccohldjjcaaDoor
open Go.RowKit Go.Lib
set_option linter.unusedSimpArgs false
set_option linter.unusedVariables false

theorem fld_k (a b c e : Value) (w : World) : (Instr.field 78 (.agg #[a, b, c, e]) 0).run Tryd.prog w = .ok a w := by kernel_rfl
theorem fld_n (a b c e : Value) (w : World) : (Instr.field 78 (.agg #[a, b, c, e]) 1).run Tryd.prog w = .ok b w := by kernel_rfl
theorem fld_s (a b c e : Value) (w : World) : (Instr.field 78 (.agg #[a, b, c, e]) 2).run Tryd.prog w = .ok c w := by kernel_rfl
theorem fld_i (a b c e : Value) (w : World) : (Instr.field 78 (.agg #[a, b, c, e]) 3).run Tryd.prog w = .ok e w := by kernel_rfl
abbrev Sg := (d : Nat) × T d
def exS (x : Sg) : Value := exV x.1 x.2
def cntS (x : Sg) : Nat := cnt x.1 x.2
def ClS (x : Sg) : Prop := Cl x.1 x.2
/-- The slice v, of the call's own from block base on, holds the expressions st. -/
def Stk (w : World) (base : Nat) (v : Value) (st : List Sg) : Prop := w.ownsRow base 24 1 v st.length (st.map exS)
theorem own_on {w w' : World} {base e size : Nat} {v : Value} {n : Nat} {xs : List Value} {B : Nat} (h : w.ownsRow base e size v n xs) (hb : Below B w w') (hB : w.heap.size ≤ B) : w'.ownsRow base e size v n xs := by
  refine ⟨h.1, ?_⟩
  rcases h.2 with hn | ⟨g, cap, cur, rfl, hbg, hg, rest⟩
  · exact .inl hn
  · exact .inr ⟨g, cap, cur, rfl, hbg, by rw [hb.block g (by have := (Array.getElem?_eq_some_iff.1 hg).1; omega)]; exact hg, rest⟩
theorem Stk.on {w w' : World} {base : Nat} {v : Value} {st : List Sg} {B : Nat} (h : Stk w base v st) (hb : Below B w w') (hB : w.heap.size ≤ B) : Stk w' base v st := own_on h hb hB
theorem exS_form (x : Sg) : exS x = .nilIface ∨ ∃ u y, exS x = .iface u y := exV_form x.1 x.2
/-- The last one taken off. -/
theorem Stk.pop {w : World} {base : Nat} {v : Value} {st : List Sg} {x : Sg} (h : Stk w base v (st ++ [x])) : ∃ g cap, v = .slice (some ⟨g, 0, none⟩) (st.length + 1) cap ∧ st.length + 1 ≤ cap ∧ cap ≤ maxLen ∧ base ≤ g ∧ g < w.heap.size ∧
    w.cell? ⟨g, st.length, none⟩ = some (exS x) ∧ Stk w base (.slice (some ⟨g, 0, none⟩) st.length cap) st := by
  unfold Stk at h
  rw [List.length_append, List.length_singleton, List.map_append, List.map_singleton] at h
  have hc := fun g => World.ownsRow.cells h (g := g)
  rcases h.2 with ⟨_, h2⟩ | ⟨g, cap, cur, rfl, hb, hg, hnc, hcm, hcs, htake⟩
  · omega
  · have h1 := hc g rfl st.length (exS x) (by simp)
    rw [show (⟨g, 0, none⟩ : Addr).add st.length = ⟨g, st.length, none⟩ by unfold Addr.add; split <;> simp_all] at h1
    refine ⟨g, cap, rfl, hnc, hcm, hb, (Array.getElem?_eq_some_iff.1 hg).1, h1, by simp, .inr ⟨g, cap, cur, rfl, hb, hg, by omega, hcm, hcs, ?_⟩⟩
    have h3 := congrArg (List.take st.length) htake
    rw [List.take_take] at h3
    simp only [Nat.mul_one] at h3 ⊢
    rw [Nat.min_eq_left (by omega), List.take_left' (by simp)] at h3
    exact h3
theorem Stk.nil {w : World} {base : Nat} {v : Value} (h : Stk w base v []) : ∃ a cap, v = .slice a 0 cap := by
  rcases h.2 with ⟨h1, _⟩ | ⟨g, cap, cur, rfl, _⟩
  · exact ⟨_, _, h1⟩
  · exact ⟨_, _, rfl⟩
theorem Tryd.infoE : (Tryd.prog.info? 24).map (fun i => (i.zero, i.size, i.bytes)) = some (some .nilIface, 1, 16) := by kernel_rfl
theorem Kids.form {w : World} {sl : Value} {l : List Value} (h : Kids w sl l) : ∃ a, sl = .slice a l.length l.length := by
  rcases h with ⟨rfl, rfl⟩ | ⟨g, rfl, _⟩
  · exact ⟨_, rfl⟩
  · exact ⟨_, rfl⟩
theorem Kids.at {w : World} {a : Option Addr} {m c j : Nat} {l : List Value} (h : Kids w (.slice a m c) l) (hj : j < l.length) : ∃ g, a = some ⟨g, 0, none⟩ ∧ w.cell? ⟨g, j, none⟩ = some l[j] := by
  rcases h with ⟨h1, rfl⟩ | ⟨g, h1, hc⟩
  · simp at hj
  · simp only [Value.slice.injEq] at h1
    exact ⟨g, h1.1, hc j hj⟩
theorem Kids.cell1 {w : World} {g m c : Nat} {x y : Value} (h : Kids w (.slice (some ⟨g, 0, none⟩) m c) [x, y]) : w.cell? ⟨g, 1, none⟩ = some y := by
  obtain ⟨g', hg, hc⟩ := h.at (j := 1) (by simp)
  obtain rfl : g = g' := by simpa using hg
  exact hc
theorem Kids.src {w : World} {sl : Value} {l : List Value} (h : Kids w sl l) (hf : ∀ v ∈ l, Ifc v) : Src Tryd.prog 1 65 sl l.length l w := by
  rcases h with ⟨rfl, rfl⟩ | ⟨g, rfl, hc⟩
  · exact Src.ofNil w Tryd.underlying65 0
  · refine Src.ofSlice w Tryd.underlying65 _ _ _ l (by simp) (fun j u hu => ?_) (fun u hu => ?_)
    · have hj : j < l.length := (List.getElem?_eq_some_iff.1 hu).1
      rw [List.getElem?_eq_getElem hj] at hu
      rw [show (⟨g, 0, none⟩ : Addr).add j = ⟨g, j, none⟩ by unfold Addr.add; split <;> simp_all, hc j hj, hu]
    · rcases hf u hu with rfl | ⟨t, y, rfl⟩ <;> rfl
/-- The parts of a tree, each with its depth. -/
def kidS {d : Nat} (ps : List (T d)) : List Sg := ps.map (fun p => ⟨d, p⟩)
theorem kidS_ex {d : Nat} (ps : List (T d)) : (kidS ps).map exS = ps.map (exV d) := by unfold kidS; rw [List.map_map]; rfl
theorem kidS_cnt {d : Nat} (ps : List (T d)) : ((kidS ps).map cntS).sum = (ps.map (cnt d)).sum := by unfold kidS; rw [List.map_map]; rfl
theorem kidS_len {d : Nat} (ps : List (T d)) : (kidS ps).length = ps.length := by simp [kidS]
theorem Stk.push {w : World} {base : Nat} {v : Value} {st : List Sg} {d : Nat} {ps : List (T d)} {n : Nat} (hn : n = st.length + ps.length) (h : w.ownsRow base 24 1 v n (st.map exS ++ ps.map (exV d))) : Stk w base v (st ++ kidS ps) := by
  unfold Stk
  rw [List.length_append, List.map_append, kidS_ex, kidS_len, ← hn]
  exact h
theorem ifc_map {d : Nat} (ps : List (T d)) : ∀ v ∈ ps.map (exV d), Ifc v := fun v hv => by
  obtain ⟨p, _, rfl⟩ := List.mem_map.1 hv
  exact ifc_ex p
/-- What is asked of a tree's parts. -/
theorem Cl.parts {d : Nat} {k n : Int} {s : ByteArray} {ps : List (T d)} (h : Cl (d + 1) (mkT k n s ps)) : ps.length ≤ 2 ∧ ∀ p ∈ ps, Cl d p := by
  rcases h with ⟨_, _, h3⟩ | ⟨_, _, h3⟩ | ⟨_, _, _, p, h4, h5⟩ | ⟨_, _, p, q, h3, h4, h5⟩ | ⟨_, _, _, h4⟩
  · simp only at h3; subst h3; simp
  · simp only at h3; subst h3; simp
  · simp only at h4; subst h4; simpa using h5
  · simp only at h3; subst h3; simp [h4, h5]
  · simp only at h4; subst h4; simp
theorem last_of {α : Type} {l : List α} (h : l ≠ []) : ∃ a x, l = a ++ [x] := ⟨l.dropLast, l.getLast h, (List.dropLast_concat_getLast h).symm⟩
end Go.Proofs.YtiddccohldjjcaaDoor
