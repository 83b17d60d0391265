import Derived.Test.YticniiieijkmmaaDoorRows
import Derived.Test.YticniiieijkmmaaDoorWd01
import Derived.Deep.RegionHeld
import Derived.Deep.DrawnRows
import Derived.WalkSmall
import Derived.Test.YticniiieijkmmaaDoorWd06
import Derived.BigQuiet
import Derived.Deep.QuietTactic
import Derived.Test.YticniiieijkmmaaDoorWd05
import Derived.Deep.DeepCutAuto
import Derived.Deep.RegionHeldLaw
import Derived.Lib.ParseIntBCases
import Derived.Lib.AtoiAll
import Derived.BigRegion

/- The expression of a tree. -/
namespace Go.Proofs.YticniiieijkmmaaDoor
open Go.RowKit
set_option linter.unusedSimpArgs false
set_option linter.unusedVariables false

/-- The expression of a tree. -/
def exV : (d : Nat) → T d → Value := fold (fun k n s l =>
  if k = 1 then .iface 132 (.agg #[.int .i64 n]) else if k = 2 then .iface 130 (.agg #[.string s]) else if k = 3 then .iface 136 (.agg #[l.getD 0 .nilIface]) else if k = 4 then .iface 137 (.agg #[l.getD 0 .nilIface])
  else if k = 5 then .iface 134 (.agg #[.string s, l.getD 0 .nilIface, l.getD 1 .nilIface]) else .nilIface)
def exP {d : Nat} (ps : List (T d)) (i : Nat) : Value := (ps.map (exV d)).getD i .nilIface
theorem exV_mk {d : Nat} (k n : Int) (s : ByteArray) (ps : List (T d)) : exV (d + 1) (mkT k n s ps) =
    if k = 1 then .iface 132 (.agg #[.int .i64 n]) else if k = 2 then .iface 130 (.agg #[.string s]) else if k = 3 then .iface 136 (.agg #[exP ps 0]) else if k = 4 then .iface 137 (.agg #[exP ps 0])
    else if k = 5 then .iface 134 (.agg #[.string s, exP ps 0, exP ps 1]) else .nilIface := rfl
theorem exV_none {d : Nat} : exV (d + 1) (none0 : T (d + 1)) = .nilIface := rfl

theorem exV_form : ∀ (d : Nat) (t : T d), exV d t = .nilIface ∨ ∃ u x, exV d t = .iface u x
  | 0, t => Empty.elim t
  | d + 1, t => by
    obtain ⟨k, n, s, ps, rfl⟩ := T.open t
    rw [exV_mk]
    repeat' split
    all_goals first | exact .inl rfl | exact .inr ⟨_, _, rfl⟩
theorem exP_form {d : Nat} (ps : List (T d)) (i : Nat) : exP ps i = .nilIface ∨ ∃ u x, exP ps i = .iface u x := by
  unfold exP
  rw [List.getD_eq_getElem?_getD, List.getElem?_map]
  cases ps[i]? with
  | none => exact .inl rfl
  | some p => exact exV_form d p
end Go.Proofs.YticniiieijkmmaaDoor

/- What an expression is by itself: topOf. -/
namespace Go.Proofs.YticniiieijkmmaaDoor
open Go.RowKit Go.Lib
set_option linter.unusedSimpArgs false
set_option linter.unusedVariables false
attribute [local go_sem ↓] Go.wp_at_zero Go.wp_at_succ

/-- The slice v holds the values l, from a block's first cell on. -/
def Kids (w : World) (v : Value) (l : List Value) : Prop :=
  (v = .slice none 0 0 ∧ l = []) ∨ ∃ g, v = .slice (some ⟨g, 0, none⟩) l.length l.length ∧ ∀ (i : Nat) (h : i < l.length), w.cell? ⟨g, i, none⟩ = some l[i]
abbrev topV (k n : Int) (s : ByteArray) (v : Value) : Value := .agg #[.int .i64 k, .int .i64 n, .string s, v]
def Ifc (x : Value) : Prop := x = .nilIface ∨ ∃ u y, x = .iface u y

theorem as_lit_lit (v : Value) (w : World) : (Instr.typeAssert (.iface 132 v) 71 132 true).run Tryd.prog w = .ok (.tuple #[v, .bool true]) w := by kernel_rfl
theorem as_ref_lit (v : Value) (w : World) : (Instr.typeAssert (.iface 130 v) 71 132 true).run Tryd.prog w = .ok (.tuple #[.agg #[.int .i64 0], .bool false]) w := by kernel_rfl
theorem as_ref_ref (v : Value) (w : World) : (Instr.typeAssert (.iface 130 v) 71 130 true).run Tryd.prog w = .ok (.tuple #[v, .bool true]) w := by kernel_rfl
theorem as_not_lit (v : Value) (w : World) : (Instr.typeAssert (.iface 136 v) 71 132 true).run Tryd.prog w = .ok (.tuple #[.agg #[.int .i64 0], .bool false]) w := by kernel_rfl
theorem as_not_ref (v : Value) (w : World) : (Instr.typeAssert (.iface 136 v) 71 130 true).run Tryd.prog w = .ok (.tuple #[.agg #[.string ⟨#[]⟩], .bool false]) w := by kernel_rfl
theorem as_not_not (v : Value) (w : World) : (Instr.typeAssert (.iface 136 v) 71 136 true).run Tryd.prog w = .ok (.tuple #[v, .bool true]) w := by kernel_rfl
theorem as_neg_lit (v : Value) (w : World) : (Instr.typeAssert (.iface 137 v) 71 132 true).run Tryd.prog w = .ok (.tuple #[.agg #[.int .i64 0], .bool false]) w := by kernel_rfl
theorem as_neg_ref (v : Value) (w : World) : (Instr.typeAssert (.iface 137 v) 71 130 true).run Tryd.prog w = .ok (.tuple #[.agg #[.string ⟨#[]⟩], .bool false]) w := by kernel_rfl
theorem as_neg_not (v : Value) (w : World) : (Instr.typeAssert (.iface 137 v) 71 136 true).run Tryd.prog w = .ok (.tuple #[.agg #[.nilIface], .bool false]) w := by kernel_rfl
theorem as_neg_neg (v : Value) (w : World) : (Instr.typeAssert (.iface 137 v) 71 137 true).run Tryd.prog w = .ok (.tuple #[v, .bool true]) w := by kernel_rfl
theorem as_bin_lit (v : Value) (w : World) : (Instr.typeAssert (.iface 134 v) 71 132 true).run Tryd.prog w = .ok (.tuple #[.agg #[.int .i64 0], .bool false]) w := by kernel_rfl
theorem as_bin_ref (v : Value) (w : World) : (Instr.typeAssert (.iface 134 v) 71 130 true).run Tryd.prog w = .ok (.tuple #[.agg #[.string ⟨#[]⟩], .bool false]) w := by kernel_rfl
theorem as_bin_not (v : Value) (w : World) : (Instr.typeAssert (.iface 134 v) 71 136 true).run Tryd.prog w = .ok (.tuple #[.agg #[.nilIface], .bool false]) w := by kernel_rfl
theorem as_bin_neg (v : Value) (w : World) : (Instr.typeAssert (.iface 134 v) 71 137 true).run Tryd.prog w = .ok (.tuple #[.agg #[.nilIface], .bool false]) w := by kernel_rfl
theorem as_bin_bin (v : Value) (w : World) : (Instr.typeAssert (.iface 134 v) 71 134 true).run Tryd.prog w = .ok (.tuple #[v, .bool true]) w := by kernel_rfl
attribute [local go_sem] as_lit_lit as_ref_lit as_ref_ref as_not_lit as_not_ref as_not_not as_neg_lit as_neg_ref as_neg_not as_neg_neg as_bin_lit as_bin_ref as_bin_not as_bin_neg as_bin_bin

theorem cell1_new (w : World) (a : Value) (t : TypeId) (n : Nat) (hn : n = w.heap.size) : (w.alloc (.cells #[a] t)).cell? ⟨n, 0, none⟩ = some a := by subst hn; simp
theorem cell2_new (w : World) (a b : Value) (t : TypeId) (n : Nat) (hn : n = w.heap.size) : (w.alloc (.cells #[a, b] t)).cell? ⟨n, 0, none⟩ = some a ∧ (w.alloc (.cells #[a, b] t)).cell? ⟨n, 1, none⟩ = some b := by subst hn; simp
theorem kids0 (w : World) : Kids w (.slice none 0 0) [] := .inl ⟨rfl, rfl⟩
theorem kids1 {w : World} {g : Nat} {x : Value} (h : w.cell? ⟨g, 0, none⟩ = some x) : Kids w (.slice (some ⟨g, 0, none⟩) 1 1) [x] := .inr ⟨g, rfl, fun i hi => by
  match i, hi with
  | 0, _ => exact h⟩
theorem kids2 {w : World} {g : Nat} {x y : Value} (h : w.cell? ⟨g, 0, none⟩ = some x) (h' : w.cell? ⟨g, 1, none⟩ = some y) : Kids w (.slice (some ⟨g, 0, none⟩) 2 2) [x, y] := .inr ⟨g, rfl, fun i hi => by
  match i, hi with
  | 0, _ => exact h
  | 1, _ => exact h'⟩
theorem Kids.below {w w' : World} {v : Value} {l : List Value} {B : Nat} (h : Kids w v l) (hb : Below B w w') (hB : w.heap.size ≤ B) : Kids w' v l := by
  rcases h with h | ⟨g, hv, hc⟩
  · exact .inl h
  · exact .inr ⟨g, hv, fun i hi => by rw [hb.cell (p := ⟨g, i, none⟩) (Nat.lt_of_lt_of_le (World.block_lt_of_cell? w _ (hc i hi)) hB)]; exact hc i hi⟩

theorem top_nil (w : World) : Calls Tryd.prog 68 #[.nilIface] w fun e w' => ∃ sl, e = .returned (topV 0 0 ⟨#[]⟩ sl) ∧ Kids w' sl [] ∧ Below w.heap.size w w' := by
  go_enter Tryd.func68, Tryd.ntmps68
  go_wp2
  refine bodyPost_ret (v := topV 0 0 ⟨#[]⟩ (.slice none 0 0)) (by simp [results, Tryd.results68, go_sem]) rfl ⟨_, rfl, kids0 _, ?_⟩
  · (repeat (refine Below.alloc ?_ (by simp <;> omega) _)); exact Below.refl _ _

theorem top_lit (n : Int) (w : World) : Calls Tryd.prog 68 #[.iface 132 (.agg #[.int .i64 n])] w fun e w' => ∃ sl, e = .returned (topV 1 n ⟨#[]⟩ sl) ∧ Kids w' sl [] ∧ Below w.heap.size w w' := by
  go_enter Tryd.func68, Tryd.ntmps68
  go_wp2
  refine bodyPost_ret (v := topV 1 n ⟨#[]⟩ (.slice none 0 0)) (by simp [results, Tryd.results68, go_sem]) rfl ⟨_, rfl, kids0 _, ?_⟩
  · (repeat (refine Below.alloc ?_ (by simp <;> omega) _)); exact Below.refl _ _

theorem top_ref (s : ByteArray) (w : World) : Calls Tryd.prog 68 #[.iface 130 (.agg #[.string s])] w fun e w' => ∃ sl, e = .returned (topV 2 0 s sl) ∧ Kids w' sl [] ∧ Below w.heap.size w w' := by
  go_enter Tryd.func68, Tryd.ntmps68
  go_wp2
  refine bodyPost_ret (v := topV 2 0 s (.slice none 0 0)) (by simp [results, Tryd.results68, go_sem]) rfl ⟨_, rfl, kids0 _, ?_⟩
  · (repeat (refine Below.alloc ?_ (by simp <;> omega) _)); exact Below.refl _ _

theorem top_not (x : Value) (hx : Ifc x) (w : World) : Calls Tryd.prog 68 #[.iface 136 (.agg #[x])] w fun e w' => ∃ sl, e = .returned (topV 3 0 ⟨#[]⟩ sl) ∧ Kids w' sl [x] ∧ Below w.heap.size w w' := by
  rcases hx with rfl | ⟨u, y, rfl⟩
  · go_enter Tryd.func68, Tryd.ntmps68
    go_wp2
    refine bodyPost_ret (v := topV 3 0 ⟨#[]⟩ (.slice (some ⟨w.heap.size + 4, 0, none⟩) 1 1)) (by simp [results, Tryd.results68, go_sem]) rfl ⟨_, rfl, kids1 ?_, ?_⟩
    · exact cell1_new _ _ _ _ (by simp)
    · (repeat (refine Below.alloc ?_ (by simp <;> omega) _)); exact Below.refl _ _
  · go_enter Tryd.func68, Tryd.ntmps68
    go_wp2
    refine bodyPost_ret (v := topV 3 0 ⟨#[]⟩ (.slice (some ⟨w.heap.size + 4, 0, none⟩) 1 1)) (by simp [results, Tryd.results68, go_sem]) rfl ⟨_, rfl, kids1 ?_, ?_⟩
    · exact cell1_new _ _ _ _ (by simp)
    · (repeat (refine Below.alloc ?_ (by simp <;> omega) _)); exact Below.refl _ _

theorem top_neg (x : Value) (hx : Ifc x) (w : World) : Calls Tryd.prog 68 #[.iface 137 (.agg #[x])] w fun e w' => ∃ sl, e = .returned (topV 4 0 ⟨#[]⟩ sl) ∧ Kids w' sl [x] ∧ Below w.heap.size w w' := by
  rcases hx with rfl | ⟨u, y, rfl⟩
  · go_enter Tryd.func68, Tryd.ntmps68
    go_wp2
    refine bodyPost_ret (v := topV 4 0 ⟨#[]⟩ (.slice (some ⟨w.heap.size + 5, 0, none⟩) 1 1)) (by simp [results, Tryd.results68, go_sem]) rfl ⟨_, rfl, kids1 ?_, ?_⟩
    · exact cell1_new _ _ _ _ (by simp)
    · (repeat (refine Below.alloc ?_ (by simp <;> omega) _)); exact Below.refl _ _
  · go_enter Tryd.func68, Tryd.ntmps68
    go_wp2
    refine bodyPost_ret (v := topV 4 0 ⟨#[]⟩ (.slice (some ⟨w.heap.size + 5, 0, none⟩) 1 1)) (by simp [results, Tryd.results68, go_sem]) rfl ⟨_, rfl, kids1 ?_, ?_⟩
    · exact cell1_new _ _ _ _ (by simp)
    · (repeat (refine Below.alloc ?_ (by simp <;> omega) _)); exact Below.refl _ _

theorem top_bin (s : ByteArray) (x x' : Value) (hx : Ifc x) (hx' : Ifc x') (w : World) : Calls Tryd.prog 68 #[.iface 134 (.agg #[.string s, x, x'])] w fun e w' => ∃ sl, e = .returned (topV 5 0 s sl) ∧ Kids w' sl [x, x'] ∧ Below w.heap.size w w' := by
  rcases hx with rfl | ⟨u, y, rfl⟩ <;> rcases hx' with rfl | ⟨u', y', rfl⟩
  · go_enter Tryd.func68, Tryd.ntmps68
    go_wp2
    refine bodyPost_ret (v := topV 5 0 s (.slice (some ⟨w.heap.size + 6, 0, none⟩) 2 2)) (by simp [results, Tryd.results68, go_sem]) rfl ⟨_, rfl, kids2 ?_ ?_, ?_⟩
    · exact (cell2_new _ _ _ _ _ (by simp)).1
    · exact (cell2_new _ _ _ _ _ (by simp)).2
    · (repeat (refine Below.alloc ?_ (by simp <;> omega) _)); exact Below.refl _ _
  · go_enter Tryd.func68, Tryd.ntmps68
    go_wp2
    refine bodyPost_ret (v := topV 5 0 s (.slice (some ⟨w.heap.size + 6, 0, none⟩) 2 2)) (by simp [results, Tryd.results68, go_sem]) rfl ⟨_, rfl, kids2 ?_ ?_, ?_⟩
    · exact (cell2_new _ _ _ _ _ (by simp)).1
    · exact (cell2_new _ _ _ _ _ (by simp)).2
    · (repeat (refine Below.alloc ?_ (by simp <;> omega) _)); exact Below.refl _ _
  · go_enter Tryd.func68, Tryd.ntmps68
    go_wp2
    refine bodyPost_ret (v := topV 5 0 s (.slice (some ⟨w.heap.size + 6, 0, none⟩) 2 2)) (by simp [results, Tryd.results68, go_sem]) rfl ⟨_, rfl, kids2 ?_ ?_, ?_⟩
    · exact (cell2_new _ _ _ _ _ (by simp)).1
    · exact (cell2_new _ _ _ _ _ (by simp)).2
    · (repeat (refine Below.alloc ?_ (by simp <;> omega) _)); exact Below.refl _ _
  · go_enter Tryd.func68, Tryd.ntmps68
    go_wp2
    refine bodyPost_ret (v := topV 5 0 s (.slice (some ⟨w.heap.size + 6, 0, none⟩) 2 2)) (by simp [results, Tryd.results68, go_sem]) rfl ⟨_, rfl, kids2 ?_ ?_, ?_⟩
    · exact (cell2_new _ _ _ _ _ (by simp)).1
    · exact (cell2_new _ _ _ _ _ (by simp)).2
    · (repeat (refine Below.alloc ?_ (by simp <;> omega) _)); exact Below.refl _ _

theorem ifc_ex {d : Nat} (t : T d) : Ifc (exV d t) := exV_form d t
/-- What an expression is by itself. -/
theorem top_any {d : Nat} {t : T (d + 1)} (hc : Cl (d + 1) t) : ∃ k n s ps, t = mkT k n s ps ∧ ∀ w, Calls Tryd.prog 68 #[exV (d + 1) t] w fun e w' => ∃ sl, e = .returned (topV k n s sl) ∧ Kids w' sl (ps.map (exV d)) ∧ Below w.heap.size w w' := by
  rcases hc.cases with ⟨n, rfl⟩ | ⟨s, rfl⟩ | ⟨k, p, hk, rfl, hp⟩ | ⟨s, p, q, rfl, hp, hq⟩ | rfl
  · exact ⟨1, n, _, [], rfl, fun w => top_lit n w⟩
  · exact ⟨2, 0, s, [], rfl, fun w => top_ref s w⟩
  · rcases hk with rfl | rfl
    · exact ⟨3, 0, _, [p], rfl, fun w => top_not (exV d p) (ifc_ex p) w⟩
    · exact ⟨4, 0, _, [p], rfl, fun w => top_neg (exV d p) (ifc_ex p) w⟩
  · exact ⟨5, 0, s, [p, q], rfl, fun w => top_bin s (exV d p) (exV d q) (ifc_ex p) (ifc_ex q) w⟩
  · exact ⟨0, 0, _, [], rfl, fun w => top_nil w⟩
end Go.Proofs.YticniiieijkmmaaDoor

/- Rows of expressions that are left to be asked: in memory, popped, grown. -/
namespace Go.Proofs.YticniiieijkmmaaDoor
open Go.RowKit Go.Lib
set_option linter.unusedSimpArgs false
set_option linter.unusedVariables false

theorem fld_k (a b c e : Value) (w : World) : (Instr.field 121 (.agg #[a, b, c, e]) 0).run Tryd.prog w = .ok a w := by kernel_rfl
theorem fld_n (a b c e : Value) (w : World) : (Instr.field 121 (.agg #[a, b, c, e]) 1).run Tryd.prog w = .ok b w := by kernel_rfl
theorem fld_s (a b c e : Value) (w : World) : (Instr.field 121 (.agg #[a, b, c, e]) 2).run Tryd.prog w = .ok c w := by kernel_rfl
theorem fld_i (a b c e : Value) (w : World) : (Instr.field 121 (.agg #[a, b, c, e]) 3).run Tryd.prog w = .ok e w := by kernel_rfl
abbrev Sg := (d : Nat) × T d
def exS (x : Sg) : Value := exV x.1 x.2
def cntS (x : Sg) : Nat := cnt x.1 x.2
def ClS (x : Sg) : Prop := Cl x.1 x.2
/-- The slice v, of the call's own from block base on, holds the expressions st. -/
def Stk (w : World) (base : Nat) (v : Value) (st : List Sg) : Prop := w.ownsRow base 71 1 v st.length (st.map exS)
theorem own_on {w w' : World} {base e size : Nat} {v : Value} {n : Nat} {xs : List Value} {B : Nat} (h : w.ownsRow base e size v n xs) (hb : Below B w w') (hB : w.heap.size ≤ B) : w'.ownsRow base e size v n xs := by
  refine ⟨h.1, ?_⟩
  rcases h.2 with hn | ⟨g, cap, cur, rfl, hbg, hg, rest⟩
  · exact .inl hn
  · exact .inr ⟨g, cap, cur, rfl, hbg, by rw [hb.block g (by have := (Array.getElem?_eq_some_iff.1 hg).1; omega)]; exact hg, rest⟩
theorem Stk.on {w w' : World} {base : Nat} {v : Value} {st : List Sg} {B : Nat} (h : Stk w base v st) (hb : Below B w w') (hB : w.heap.size ≤ B) : Stk w' base v st := own_on h hb hB
theorem exS_form (x : Sg) : exS x = .nilIface ∨ ∃ u y, exS x = .iface u y := exV_form x.1 x.2
/-- The last one taken off. -/
theorem Stk.pop {w : World} {base : Nat} {v : Value} {st : List Sg} {x : Sg} (h : Stk w base v (st ++ [x])) : ∃ g cap, v = .slice (some ⟨g, 0, none⟩) (st.length + 1) cap ∧ st.length + 1 ≤ cap ∧ cap ≤ maxLen ∧ base ≤ g ∧ g < w.heap.size ∧
    w.cell? ⟨g, st.length, none⟩ = some (exS x) ∧ Stk w base (.slice (some ⟨g, 0, none⟩) st.length cap) st := by
  unfold Stk at h
  rw [List.length_append, List.length_singleton, List.map_append, List.map_singleton] at h
  have hc := fun g => World.ownsRow.cells h (g := g)
  rcases h.2 with ⟨_, h2⟩ | ⟨g, cap, cur, rfl, hb, hg, hnc, hcm, hcs, htake⟩
  · omega
  · have h1 := hc g rfl st.length (exS x) (by simp)
    rw [show (⟨g, 0, none⟩ : Addr).add st.length = ⟨g, st.length, none⟩ by unfold Addr.add; split <;> simp_all] at h1
    refine ⟨g, cap, rfl, hnc, hcm, hb, (Array.getElem?_eq_some_iff.1 hg).1, h1, by simp, .inr ⟨g, cap, cur, rfl, hb, hg, by omega, hcm, hcs, ?_⟩⟩
    have h3 := congrArg (List.take st.length) htake
    rw [List.take_take] at h3
    simp only [Nat.mul_one] at h3 ⊢
    rw [Nat.min_eq_left (by omega), List.take_left' (by simp)] at h3
    exact h3
theorem Stk.nil {w : World} {base : Nat} {v : Value} (h : Stk w base v []) : ∃ a cap, v = .slice a 0 cap := by
  rcases h.2 with ⟨h1, _⟩ | ⟨g, cap, cur, rfl, _⟩
  · exact ⟨_, _, h1⟩
  · exact ⟨_, _, rfl⟩
theorem Tryd.infoE : (Tryd.prog.info? 71).map (fun i => (i.zero, i.size, i.bytes)) = some (some .nilIface, 1, 16) := by kernel_rfl
theorem Kids.form {w : World} {sl : Value} {l : List Value} (h : Kids w sl l) : ∃ a, sl = .slice a l.length l.length := by
  rcases h with ⟨rfl, rfl⟩ | ⟨g, rfl, _⟩
  · exact ⟨_, rfl⟩
  · exact ⟨_, rfl⟩
theorem Kids.at {w : World} {a : Option Addr} {m c j : Nat} {l : List Value} (h : Kids w (.slice a m c) l) (hj : j < l.length) : ∃ g, a = some ⟨g, 0, none⟩ ∧ w.cell? ⟨g, j, none⟩ = some l[j] := by
  rcases h with ⟨h1, rfl⟩ | ⟨g, h1, hc⟩
  · simp at hj
  · simp only [Value.slice.injEq] at h1
    exact ⟨g, h1.1, hc j hj⟩
theorem Kids.cell1 {w : World} {g m c : Nat} {x y : Value} (h : Kids w (.slice (some ⟨g, 0, none⟩) m c) [x, y]) : w.cell? ⟨g, 1, none⟩ = some y := by
  obtain ⟨g', hg, hc⟩ := h.at (j := 1) (by simp)
  obtain rfl : g = g' := by simpa using hg
  exact hc
theorem Kids.src {w : World} {sl : Value} {l : List Value} (h : Kids w sl l) (hf : ∀ v ∈ l, Ifc v) : Src Tryd.prog 1 99 sl l.length l w := by
  rcases h with ⟨rfl, rfl⟩ | ⟨g, rfl, hc⟩
  · exact Src.ofNil w Tryd.underlying99 0
  · refine Src.ofSlice w Tryd.underlying99 _ _ _ l (by simp) (fun j u hu => ?_) (fun u hu => ?_)
    · have hj : j < l.length := (List.getElem?_eq_some_iff.1 hu).1
      rw [List.getElem?_eq_getElem hj] at hu
      rw [show (⟨g, 0, none⟩ : Addr).add j = ⟨g, j, none⟩ by unfold Addr.add; split <;> simp_all, hc j hj, hu]
    · rcases hf u hu with rfl | ⟨t, y, rfl⟩ <;> rfl
/-- The parts of a tree, each with its depth. -/
def kidS {d : Nat} (ps : List (T d)) : List Sg := ps.map (fun p => ⟨d, p⟩)
theorem kidS_ex {d : Nat} (ps : List (T d)) : (kidS ps).map exS = ps.map (exV d) := by unfold kidS; rw [List.map_map]; rfl
theorem kidS_cnt {d : Nat} (ps : List (T d)) : ((kidS ps).map cntS).sum = (ps.map (cnt d)).sum := by unfold kidS; rw [List.map_map]; rfl
theorem kidS_len {d : Nat} (ps : List (T d)) : (kidS ps).length = ps.length := by simp [kidS]
theorem Stk.push {w : World} {base : Nat} {v : Value} {st : List Sg} {d : Nat} {ps : List (T d)} {n : Nat} (hn : n = st.length + ps.length) (h : w.ownsRow base 71 1 v n (st.map exS ++ ps.map (exV d))) : Stk w base v (st ++ kidS ps) := by
  unfold Stk
  rw [List.length_append, List.map_append, kidS_ex, kidS_len, ← hn]
  exact h
theorem ifc_map {d : Nat} (ps : List (T d)) : ∀ v ∈ ps.map (exV d), Ifc v := fun v hv => by
  obtain ⟨p, _, rfl⟩ := List.mem_map.1 hv
  exact ifc_ex p
/-- What is asked of a tree's parts. -/
theorem Cl.parts {d : Nat} {k n : Int} {s : ByteArray} {ps : List (T d)} (h : Cl (d + 1) (mkT k n s ps)) : ps.length ≤ 2 ∧ ∀ p ∈ ps, Cl d p := by
  rcases h with ⟨_, _, h3⟩ | ⟨_, _, h3⟩ | ⟨_, _, _, p, h4, h5⟩ | ⟨_, _, p, q, h3, h4, h5⟩ | ⟨_, _, _, h4⟩
  · simp only at h3; subst h3; simp
  · simp only at h3; subst h3; simp
  · simp only at h4; subst h4; simpa using h5
  · simp only at h3; subst h3; simp [h4, h5]
  · simp only at h4; subst h4; simp
theorem last_of {α : Type} {l : List α} (h : l ≠ []) : ∃ a x, l = a ++ [x] := ⟨l.dropLast, l.getLast h, (List.dropLast_concat_getLast h).symm⟩
end Go.Proofs.YticniiieijkmmaaDoor

/- The program's reader in memory: its operands, and the signs that wait; what is small. -/
namespace Go.Proofs.YticniiieijkmmaaDoor
open Go.RowKit Go.Lib
set_option linter.unusedSimpArgs false
set_option linter.unusedVariables false
attribute [local go_sem ↓] Go.wp_at_zero Go.wp_at_succ

def exX (x : Sx) : Value := exV x.1 x.2
theorem exX_form (x : Sx) : exX x = .nilIface ∨ ∃ u y, exX x = .iface u y := exV_form x.1 x.2
theorem exX_mk2 (s : ByteArray) (x y : Sx) : exX (mk2 s x y) = .iface 134 (.agg #[.string s, exX x, exX y]) := foldS_mk2 _ s x y
theorem exX_not (x : Sx) : exX (mk1 3 x) = .iface 136 (.agg #[exX x]) := rfl
theorem exX_neg (x : Sx) : exX (mk1 4 x) = .iface 137 (.agg #[exX x]) := rfl
theorem exX_lit (n : Int) : exX (mk0 1 n ⟨#[]⟩) = .iface 132 (.agg #[.int .i64 n]) := rfl
theorem exX_ref (s : ByteArray) : exX (mk0 2 0 s) = .iface 130 (.agg #[.string s]) := rfl
theorem exX_no : exX noX = .nilIface := rfl
/-- A sign's cells. -/
def cel2 (s : Sg2) : List Value := [.string ⟨s.1.toArray⟩, .int .i64 (s.2 : Int)]
def cels2 (l : List Sg2) : List Value := l.flatMap cel2
theorem cels2_app (a b : List Sg2) : cels2 (a ++ b) = cels2 a ++ cels2 b := by simp [cels2]
theorem cels2_len (l : List Sg2) : (cels2 l).length = l.length * 2 := by
  induction l with
  | nil => rfl
  | cons a r ih => simp [cels2, cel2] at ih ⊢; omega
/-- The reader in block X: its two rows lie behind it, apart. -/
structure Rdr (w : World) (X : Nat) (y : Yd) (vv ww : Value) : Prop where
  b : B4 w X vv ww (.int .i64 (y.o : Int)) (.bool y.b)
  v : w.ownsRow (X + 1) 71 1 vv y.V.length (y.V.reverse.map exX)
  w : w.ownsRow (X + 1) 119 2 ww y.W.length (cels2 y.W.reverse)
  a : ∀ g, vv.ownBlock = some g → ww.ownBlock ≠ some g
theorem own_keep {w w' : World} {base e size n : Nat} {v : Value} {xs : List Value} (h : w.ownsRow base e size v n xs) (hk : ∀ g, v.ownBlock = some g → w'.heap[g]? = w.heap[g]?) : w'.ownsRow base e size v n xs := ownsRow_keep h hk
theorem Rdr.on {w w' : World} {X : Nat} {y : Yd} {vv ww : Value} (h : Rdr w X y vv ww) (hb : Below w.heap.size w w') : Rdr w' X y vv ww :=
  ⟨h.b.keep hb, own_on h.v hb (Nat.le_refl _), own_on h.w hb (Nat.le_refl _), h.a⟩
theorem Rdr.drew {w : World} {X : Nat} {y : Yd} {vv ww : Value} (h : Rdr w X y vv ww) : Rdr w.drew X y vv ww := ⟨⟨h.b.c0, h.b.c1, h.b.c2, h.b.c3, h.b.f0, h.b.f1, h.b.f2, h.b.f3⟩, h.v, h.w, h.a⟩
theorem Rdr.drewN {w : World} {X : Nat} {y : Yd} {vv ww : Value} (h : Rdr w X y vv ww) (m : Nat) : Rdr (w.drewN m) X y vv ww := h.on ⟨rfl, rfl, rfl, Nat.le_refl _, fun _ _ => rfl⟩
theorem Rdr.lt {w : World} {X : Nat} {y : Yd} {vv ww : Value} (h : Rdr w X y vv ww) : X < w.heap.size := h.b.lt
/-- Nothing has turned but the reader, its two rows, and new blocks; the rows are where they were, or new. -/
structure Fr2 (X : Nat) (vv ww : Value) (w w' : World) (vv' ww' : Value) : Prop where
  size : w.heap.size ≤ w'.heap.size
  block : ∀ k, k < w.heap.size → k ≠ X → vv.ownBlock ≠ some k → ww.ownBlock ≠ some k → w'.heap[k]? = w.heap[k]?
  lv : ∀ g, vv'.ownBlock = some g → vv.ownBlock = some g ∨ w.heap.size ≤ g
  lw : ∀ g, ww'.ownBlock = some g → ww.ownBlock = some g ∨ w.heap.size ≤ g
theorem Fr2.refl (X : Nat) (vv ww : Value) (w : World) : Fr2 X vv ww w w vv ww := ⟨Nat.le_refl _, fun _ _ _ _ _ => rfl, fun _ h => .inl h, fun _ h => .inl h⟩
theorem Fr2.on {X : Nat} {vv ww vv' ww' : Value} {w w1 w2 : World} (h : Fr2 X vv ww w w1 vv' ww') (hb : Below w1.heap.size w1 w2) : Fr2 X vv ww w w2 vv' ww' :=
  ⟨Nat.le_trans h.size hb.size, fun k hk a b c => (hb.block k (Nat.lt_of_lt_of_le hk h.size)).trans (h.block k hk a b c), h.lv, h.lw⟩
theorem Fr2.setX {X : Nat} {vv ww vv' ww' : Value} {w w1 : World} (h : Fr2 X vv ww w w1 vv' ww') (i : Nat) (u : Value) : Fr2 X vv ww w (w1.setCell ⟨X, i, none⟩ u) vv' ww' :=
  ⟨by simpa using h.size, fun k hk a b c => (Below.heap_setCell _ _ _ _ (fun e => a e)).trans (h.block k hk a b c), h.lv, h.lw⟩
theorem Fr2.setV {X g : Nat} {vv ww vv' ww' : Value} {w w1 : World} (h : Fr2 X vv ww w w1 vv' ww') (hg : vv'.ownBlock = some g) (i : Nat) (u : Value) : Fr2 X vv ww w (w1.setCell ⟨g, i, none⟩ u) vv' ww' :=
  ⟨by simpa using h.size, fun k hk a b c => (Below.heap_setCell _ _ _ _ (fun e => by
    rcases h.lv g hg with q | q
    · exact b (by rw [q]; exact congrArg some e.symm)
    · have : k = g := e
      omega)).trans (h.block k hk a b c), h.lv, h.lw⟩
theorem Fr2.rows {X : Nat} {vv ww vv' ww' vv2 ww2 : Value} {w w1 : World} (h : Fr2 X vv ww w w1 vv' ww') (hv : vv2.ownBlock = vv'.ownBlock) (hw : ww2.ownBlock = ww'.ownBlock) : Fr2 X vv ww w w1 vv2 ww2 :=
  ⟨h.size, h.block, fun g hg => h.lv g (hv ▸ hg), fun g hg => h.lw g (hw ▸ hg)⟩
theorem Fr2.trans {X : Nat} {vv ww v1 u1 v2 u2 : Value} {w w1 w2 : World} (h : Fr2 X vv ww w w1 v1 u1) (k : Fr2 X v1 u1 w1 w2 v2 u2) : Fr2 X vv ww w w2 v2 u2 := by
  refine ⟨Nat.le_trans h.size k.size, fun j hj a b c => ?_, fun g hg => ?_, fun g hg => ?_⟩
  · rw [k.block j (Nat.lt_of_lt_of_le hj h.size) a (fun e => ?_) (fun e => ?_), h.block j hj a b c]
    · rcases h.lv j e with q | q
      · exact b q
      · omega
    · rcases h.lw j e with q | q
      · exact c q
      · omega
  · rcases k.lv g hg with q | q
    · exact h.lv g q
    · exact .inr (Nat.le_trans h.size q)
  · rcases k.lw g hg with q | q
    · exact h.lw g q
    · exact .inr (Nat.le_trans h.size q)
theorem own_form {w : World} {base e size n : Nat} {v : Value} {xs : List Value} (h : w.ownsRow base e size v n xs) : ∃ a cap, v = .slice a n cap ∧ n ≤ cap := by
  rcases h.2 with ⟨h1, h2⟩ | ⟨g, cap, cur, h1, _, _, h3, _⟩
  · exact ⟨none, 0, by rw [h1, h2], by omega⟩
  · exact ⟨_, _, h1, h3⟩
/-- The last sign that waits, in memory. -/
theorem own_last2 {w : World} {base e : Nat} {v : Value} {s : Sg2} {W : List Sg2} (h : w.ownsRow base e 2 v (s :: W).length (cels2 (s :: W).reverse)) : ∃ g cap, v = .slice (some ⟨g, 0, none⟩) (W.length + 1) cap ∧ W.length + 1 ≤ cap ∧ cap ≤ maxLen ∧ base ≤ g ∧ g < w.heap.size ∧
    w.cell? ⟨g, W.length * 2, none⟩ = some (.string ⟨s.1.toArray⟩) ∧ w.cell? ⟨g, W.length * 2 + 1, none⟩ = some (.int .i64 (s.2 : Int)) ∧ w.ownsRow base e 2 (.slice (some ⟨g, 0, none⟩) W.length cap) W.length (cels2 W.reverse) := by
  rw [List.length_cons, List.reverse_cons, cels2_app] at h
  have hl : (cels2 W.reverse).length = W.length * 2 := by rw [cels2_len, List.length_reverse]
  have hc := fun g => World.ownsRow.cells h (g := g)
  have h' := h
  rcases h.2 with ⟨_, h2⟩ | ⟨g, cap, cur, rfl, hb, hg, hnc, hcm, hcs, htake⟩
  · omega
  · have c0 := hc g rfl (W.length * 2) (.string ⟨s.1.toArray⟩) (by rw [List.getElem?_append_right (by omega), hl, Nat.sub_self]; rfl)
    have c1 := hc g rfl (W.length * 2 + 1) (.int .i64 (s.2 : Int)) (by rw [List.getElem?_append_right (by omega), hl, Nat.add_sub_cancel_left]; rfl)
    have hp : ∀ i, (⟨g, 0, none⟩ : Addr).add i = ⟨g, i, none⟩ := fun i => by unfold Addr.add; split <;> simp_all
    rw [hp] at c0 c1
    exact ⟨g, cap, rfl, hnc, hcm, hb, (Array.getElem?_eq_some_iff.1 hg).1, c0, c1, ownsRow_pop hl h'⟩
theorem own_nil {w : World} {base e size : Nat} {v : Value} {xs : List Value} (h : w.ownsRow base e size v 0 xs) : ∃ a cap, v = .slice a 0 cap := by
  obtain ⟨a, cap, rfl, _⟩ := own_form h
  exact ⟨a, cap, rfl⟩

set_option maxHeartbeats 1000000 in
theorem last_any {w : World} {X : Nat} {y : Yd} {vv ww : Value} (h : Rdr w X y vv ww) (hl : y.W.length ≤ 4000) : Calls Tryd.prog 64 #[.pointer (some ⟨X, 0, none⟩)] w fun e w' => e = .returned (.int .i64 (topL y.W : Int)) ∧ ∃ m, w' = w.drewN m := by
  have hc := h.b.c1
  have hw := h.w
  clear h
  obtain ⟨V, W, o, b⟩ := y
  simp only at hc hw hl ⊢
  cases W with
  | nil =>
    obtain ⟨a, cap, rfl⟩ := own_nil hw
    clear hw
    go_enter Tryd.func64, Tryd.ntmps64
    go_wp2
    go_ret
    exact ⟨rfl, 0, rfl⟩
  | cons s W =>
    obtain ⟨g, cap, rfl, h1, h2, h3, h4, c0, c1, _⟩ := own_last2 hw
    rw [List.length_cons] at hl
    have i1 : ((W.length : Int) + 1 == 0) = false := beq_eq_false_iff_ne.2 (by omega)
    have i2 : IntKind.i64.wrap ((W.length : Int) + 1 - 1) = (W.length : Int) := by rw [IntKind.wrap_i64]; omega
    have i3 : (W.length : Int) < (W.length : Int) + 1 := by omega
    have i4 : (0 : Int) ≤ (W.length : Int) := by omega
    clear hw
    go_enter Tryd.func64, Tryd.ntmps64
    go_wp2
    go_quiet (fail)
    go_wp2
    go_ret
    exact ⟨rfl, _, rfl⟩
end Go.Proofs.YticniiieijkmmaaDoor

/- Charts in the program's memory. -/
namespace Go.Proofs.YticniiieijkmmaaDoor
open Go.RowKit Go.Lib
set_option linter.unusedSimpArgs false
set_option linter.unusedVariables false

/-- A text of bytes as a value. -/
def sV (l : List UInt8) : Value := .string ⟨l.toArray⟩
def rSet (ok : Nat → Prop) (w : World) (x : List UInt8 × Sx) (cs : List Value) : Prop := cs = [sV x.1, exX x.2]
theorem kp_set : Kp rSet := fun _ _ _ _ _ _ h _ => h
/-- The guard: nil where there is none. -/
def gdV (g : Bool × Sx) : Value := if g.1 = true then exX g.2 else .nilIface
theorem gdV_form (g : Bool × Sx) : gdV g = .nilIface ∨ ∃ u y, gdV g = .iface u y := by
  unfold gdV
  split
  · exact exX_form _
  · exact .inl rfl
def onV (o : OnC) (sl : Value) : List Value := [sV o.1, gdV o.2.1, sV o.2.2.1, sl, .int .i64 o.2.2.2.2.1, .int .i64 o.2.2.2.2.2]
def rOn (ok : Nat → Prop) (w : World) (o : OnC) (cs : List Value) : Prop := ∃ sl, cs = onV o sl ∧ RdK ok w 2 (rSet ok w) o.2.2.2.1 sl
theorem kp_on : Kp rOn := fun _ _ _ _ _ _ ⟨sl, h, hr⟩ hk => ⟨sl, h, hr.stay kp_set hk⟩
def hdV (h : HdC) (so si : Value) : List Value := [sV h.1.1, .int .i64 h.1.2.1, .int .i64 h.1.2.2, .bool h.2.1.1, .bool h.2.1.2, sV h.2.2.1.1, sV h.2.2.1.2, .int .i64 h.2.2.2.1.1, .int .i64 h.2.2.2.1.2, so, si]
def rSt : (d : Nat) → (Nat → Prop) → World → St d → List Value → Prop
  | 0, _, _, t, _ => Empty.elim t
  | d + 1, ok, w, t, cs => ∃ so si, cs = hdV t.1 so si ∧ RdK ok w 6 (rOn ok w) t.1.2.2.2.2 so ∧ RdK ok w 11 (rSt d ok w) t.2 si
theorem kp_st : ∀ d, Kp (rSt d)
  | 0 => fun _ _ _ _ x _ _ _ => Empty.elim x
  | d + 1 => fun _ _ _ _ _ _ ⟨so, si, h, h1, h2⟩ hk => ⟨so, si, h, h1.stay kp_on hk, h2.stay (kp_st d) hk⟩
def varV (x : List UInt8 × Int × Pl) : List Value := [sV x.1, .int .i64 x.2.1, .int .i64 x.2.2.1, .int .i64 x.2.2.2]
def rVar (ok : Nat → Prop) (w : World) (x : List UInt8 × Int × Pl) (cs : List Value) : Prop := cs = varV x
theorem kp_var : Kp rVar := fun _ _ _ _ _ _ h _ => h
/-- A chart whose states lie less than d deep. -/
abbrev ChG (d : Nat) := (List UInt8 × Pl) × Int × List (List UInt8 × Int × Pl) × List (St d)
def RdC (ok : Nat → Prop) (w : World) (d : Nat) (c : ChG d) (v : Value) : Prop :=
  ∃ sv ss, v = .agg #[sV c.1.1, .int .i64 c.2.1, .int .i64 c.1.2.1, .int .i64 c.1.2.2, sv, ss] ∧ RdK ok w 4 (rVar ok w) c.2.2.1 sv ∧ RdK ok w 11 (rSt d ok w) c.2.2.2 ss
theorem RdC.keep {ok ok' : Nat → Prop} {w w' : World} {d : Nat} {c : ChG d} {v : Value} (h : RdC ok w d c v) (hk : ∀ b, ok b → b < w.heap.size → ok' b ∧ w'.heap[b]? = w.heap[b]?) : RdC ok' w' d c v := by
  obtain ⟨sv, ss, h1, h2, h3⟩ := h
  exact ⟨sv, ss, h1, h2.stay kp_var hk, h3.stay (kp_st d) hk⟩
theorem rdC_no (ok : Nat → Prop) (w : World) : RdC ok w 7 noC (.agg #[.string ⟨#[]⟩, .int .i64 0, .int .i64 0, .int .i64 0, .slice none 0 0, .slice none 0 0]) := ⟨_, _, rfl, rdK_none _ _ _ _, rdK_none _ _ _ _⟩
end Go.Proofs.YticniiieijkmmaaDoor

/- The program's reader of charts in memory; what its fail and sees do. -/
namespace Go.Proofs.YticniiieijkmmaaDoor
open Go.RowKit Go.Lib
set_option linter.unusedSimpArgs false
set_option linter.unusedVariables false
attribute [local go_sem ↓] Go.wp_at_zero Go.wp_at_succ

/-- The reader in block X stands where r does. -/
def Pr (w : World) (X : Nat) (a : Option Addr) (cap : Nat) (ws : List Wd) (fin : Pl) (r : RsC) : Prop :=
  ∃ n, Rr w X a cap ws n r.2.2 ∧ r.1 = ws.drop n ∧ n ≤ ws.length ∧ (r.2.2 ≠ 0 → r.2.1 = hereR fin r)
theorem Pr.lt {w : World} {X : Nat} {a : Option Addr} {cap : Nat} {ws : List Wd} {fin : Pl} {r : RsC} (h : Pr w X a cap ws fin r) : X < w.heap.size := by
  obtain ⟨n, h, _⟩ := h
  exact h.lt
theorem Pr.on {w w' : World} {X : Nat} {a : Option Addr} {cap : Nat} {ws : List Wd} {fin : Pl} {r : RsC} (h : Pr w X a cap ws fin r) (hb : Below w.heap.size w w') : Pr w' X a cap ws fin r := by
  obtain ⟨n, h1, h2, h3, h4⟩ := h
  exact ⟨n, h1.on hb, h2, h3, h4⟩
theorem Pr.far {w : World} {X Y i : Nat} {a : Option Addr} {cap : Nat} {ws : List Wd} {fin : Pl} {r : RsC} (h : Pr w X a cap ws fin r) (hY : X < Y) (u : Value) : Pr (w.setCell ⟨Y, i, none⟩ u) X a cap ws fin r := by
  obtain ⟨n, h1, h2, h3, h4⟩ := h
  exact ⟨n, h1.far hY u, h2, h3, h4⟩
theorem drop_cons {ws : List Wd} {n : Nat} {x : Wd} {l : List Wd} (h : x :: l = ws.drop n) : n < ws.length ∧ l = ws.drop (n + 1) ∧ ∀ hn : n < ws.length, ws[n] = x := by
  have hn : n < ws.length := by
    rcases Nat.lt_or_ge n ws.length with h' | h'
    · exact h'
    · rw [List.drop_eq_nil_of_le h'] at h; cases h
  rw [List.drop_eq_getElem_cons hn] at h
  injection h with h1 h2
  exact ⟨hn, h2, fun _ => h1.symm⟩
theorem drop_nil {ws : List Wd} {n : Nat} (h : [] = ws.drop n) (hn : n ≤ ws.length) : n = ws.length := by
  have := congrArg List.length h
  rw [List.length_drop] at this
  simp at this
  omega
/-- A fault is kept. -/
theorem Pr.bad {w : World} {X n : Nat} {a : Option Addr} {cap : Nat} {ws : List Wd} {fin : Pl} {r : RsC} {e : Int} (h : Rr w X a cap ws n (if r.2.2 = 0 then e else r.2.2)) (h1 : r.1 = ws.drop n) (h2 : n ≤ ws.length) (h3 : r.2.2 ≠ 0 → r.2.1 = hereR fin r) : Pr w X a cap ws fin (failC e (hereR fin r) r) := by
  unfold failC
  by_cases h0 : r.2.2 = 0
  · rw [if_pos h0] at h ⊢
    exact ⟨n, h, h1, h2, fun _ => rfl⟩
  · rw [if_neg h0] at h ⊢
    exact ⟨n, h, h1, h2, h3⟩
/-- A word is taken. -/
theorem Pr.step {w : World} {X n : Nat} {a : Option Addr} {cap : Nat} {ws : List Wd} {fin : Pl} {r : RsC} {x : Wd} {l : List Wd} (h : Rr w X a cap ws (n + 1) r.2.2) (h1 : x :: l = ws.drop n) (h0 : r.2.2 = 0) : Pr w X a cap ws fin (l, r.2) := by
  obtain ⟨hn, hl, _⟩ := drop_cons h1
  exact ⟨n + 1, h, hl, hn, fun e => absurd h0 e⟩
set_option maxRecDepth 100000 in
set_option maxHeartbeats 4000000 in
theorem pfail_any {w : World} {X : Nat} {a : Option Addr} {cap : Nat} {ws : List Wd} {n : Nat} {b : Int} (h : Rr w X a cap ws n b) (e : Int) :
    Calls Tryd.prog 21 #[.pointer (some ⟨X, 0, none⟩), .int .i64 e] w fun x w' => (∃ u, x = .returned u) ∧ Rr w' X a cap ws n (if b = 0 then e else b) ∧ Fx X w w' := by
  have hS := h.set2 e
  obtain ⟨c0, c1, c2, f1, f2, hL⟩ := id h
  by_cases hb : b = 0
  · rw [if_pos hb]
    have i1 : (b == 0) = true := by simpa using hb
    clear hL hb
    go_enter Tryd.func21, Tryd.ntmps21
    go_wp2
    go_end0
    exact ⟨⟨_, rfl⟩, hS, (Fx.refl X w).setX _⟩
  · rw [if_neg hb]
    have i1 : (b == 0) = false := by simpa using hb
    clear hL hb hS
    go_enter Tryd.func21, Tryd.ntmps21
    go_wp2
    go_end0
    exact ⟨⟨_, rfl⟩, h, Fx.refl X w⟩
set_option maxRecDepth 100000 in
set_option maxHeartbeats 4000000 in
theorem sees_any {w : World} {X : Nat} {a : Option Addr} {cap : Nat} {ws : List Wd} {fin : Pl} {r : RsC} (h : Pr w X a cap ws fin r) (hk : Wk ws cap) (t : List UInt8) :
    Calls Tryd.prog 19 #[.pointer (some ⟨X, 0, none⟩), .string ⟨t.toArray⟩] w fun e w' => e = .returned (.bool (isC t r)) ∧ ∃ m, w' = w.drewN m := by
  obtain ⟨n, ⟨c0, c1, c2, f1, f2, hL⟩, h1, h2, h3⟩ := h
  have hcap := hk.c
  have hlen := hk.l
  obtain ⟨b, hb⟩ : ∃ b, r.2.2 = b := ⟨_, rfl⟩
  unfold isC
  rw [hb] at c2 ⊢
  have i2 : (0 : Int) ≤ (n : Int) := by omega
  by_cases hz : b = 0
  · subst hz
    cases hr : r.1 with
    | cons x l =>
      rw [hr] at h1
      obtain ⟨hn, _, hx⟩ := drop_cons h1
      obtain ⟨g, off, rfl, hgX, d0, d1, d2, d3⟩ := hL n hn
      have i1 : (n : Int) < (ws.length : Int) := by omega
      have hd1 : w.cell? ⟨g, off + n * 4 + 1, none⟩ = some (.string ⟨(tkW x).2.toArray⟩) := by rw [hx hn] at d1; exact d1
      obtain ⟨bs, hbs⟩ : ∃ bs, (tkW x).2 = bs := ⟨_, rfl⟩
      simp only [hbs] at hd1 ⊢
      clear d0 d1 d2 d3 hL hbs h1 hx hr h2 h3
      by_cases hq : bs = t
      · have i3 : (bs == t) = true := by rw [hq]; simp
        rw [decide_eq_true hq]
        clear hq
        go_enter Tryd.func19, Tryd.ntmps19
        go_wp2
        go_quiet (fail)
        go_wp2
        go_ret
        exact ⟨rfl, _, rfl⟩
      · have i3 : (bs == t) = false := beq_eq_false_iff_ne.2 hq
        rw [decide_eq_false hq]
        clear hq
        go_enter Tryd.func19, Tryd.ntmps19
        go_wp2
        go_quiet (fail)
        go_wp2
        go_ret
        exact ⟨rfl, _, rfl⟩
    | nil =>
      rw [hr] at h1
      have hn := drop_nil h1 h2
      have i1 : decide (n < ws.length) = false := decide_eq_false (by omega)
      have i3 : ¬ n < ws.length := by omega
      simp only [Bool.and_false]
      clear hL h1 h2 h3 hr hn
      go_enter Tryd.func19, Tryd.ntmps19
      go_wp2
      go_quiet (fail)
      go_wp2
      go_ret
      exact ⟨rfl, _, rfl⟩
  · have i1 : (b == 0) = false := by simpa using hz
    rw [decide_eq_false hz]
    simp only [Bool.false_and]
    clear hL hz h1 h3
    go_enter Tryd.func19, Tryd.ntmps19
    go_wp2
    go_quiet (fail)
    go_wp2
    go_ret
    exact ⟨rfl, _, rfl⟩
end Go.Proofs.YticniiieijkmmaaDoor

/- What the program's skips, must and last do. -/
namespace Go.Proofs.YticniiieijkmmaaDoor
open Go.RowKit Go.Lib
set_option linter.unusedSimpArgs false
set_option linter.unusedVariables false
attribute [local go_sem ↓] Go.wp_at_zero Go.wp_at_succ

/-- The word is taken, if it is the next one. -/
def skR (fin : Pl) (t : List UInt8) (r : RsC) : RsC := if isC t r = true then takeR fin t r else r
theorem skR_yes {fin : Pl} {t : List UInt8} {r : RsC} (h : isC t r = true) : skR fin t r = takeR fin t r := if_pos h
theorem skR_no {fin : Pl} {t : List UInt8} {r : RsC} (h : isC t r = false) : skR fin t r = r := if_neg (by rw [h]; decide)
theorem isC_cons {t : List UInt8} {r : RsC} (h : isC t r = true) : r.2.2 = 0 ∧ ∃ x l, r.1 = x :: l := by
  refine ⟨isC_ok h, ?_⟩
  unfold isC at h
  cases hr : r.1 with
  | nil => rw [hr] at h; simp at h
  | cons x l => exact ⟨x, l, rfl⟩
set_option maxRecDepth 100000 in
set_option maxHeartbeats 4000000 in
theorem skips_any {w : World} {X : Nat} {a : Option Addr} {cap : Nat} {ws : List Wd} {fin : Pl} {r : RsC} (h : Pr w X a cap ws fin r) (hk : Wk ws cap) (t : List UInt8) :
    Calls Tryd.prog 17 #[.pointer (some ⟨X, 0, none⟩), .string ⟨t.toArray⟩] w fun e w' => e = .returned (.bool (isC t r)) ∧ Pr w' X a cap ws fin (skR fin t r) ∧ Fx X w w' := by
  have hS := sees_any h hk t
  cases hi : isC t r with
  | true =>
    rw [hi] at hS
    rw [skR_yes hi]
    obtain ⟨h0, x, l, hr⟩ := isC_cons hi
    have e : takeR fin t r = (l, r.2) := by unfold takeR; rw [if_pos hi, hr]; rfl
    rw [e]
    obtain ⟨n, h1, h2, h3, h4⟩ := id h
    rw [hr] at h2
    have hlen := hk.l
    have i5 : IntKind.i64.wrap ((n : Int) + 1) = (n : Int) + 1 := by rw [IntKind.wrap_i64]; omega
    go_enter Tryd.func17, Tryd.ntmps17
    go_upto_region 3 with (first
      | (go_at_call 19; refine hS.mono ?_; rintro e w1 ⟨rfl, m, rfl⟩))
    have hR1 := h1.on (draws w m)
    have hR2 := hR1.set1 (n + 1)
    have hF : Fx X w ((w.drewN m).setCell ⟨X, 1, none⟩ (.int .i64 ((n + 1 : Nat) : Int))) := ((Fx.refl X w).drewN m).setX _
    obtain ⟨c0, c1, c2, f1, f2, hL⟩ := id hR1
    clear hL hS h h1 h4 hi e
    generalize w.drewN m = w1 at *
    go_wp2
    go_ret
    refine ⟨rfl, ?_, ?_⟩
    · exact Pr.step hR2 h2 h0
    · exact hF
  | false =>
    rw [hi] at hS
    rw [skR_no hi]
    go_enter Tryd.func17, Tryd.ntmps17
    go_wp2_with (first
      | (go_at_call 19; refine hS.mono ?_; rintro e w1 ⟨rfl, m, rfl⟩))
    go_ret
    exact ⟨rfl, h.on (draws w m), (Fx.refl X w).drewN m⟩
set_option maxRecDepth 100000 in
set_option maxHeartbeats 4000000 in
theorem must_any {w : World} {X : Nat} {a : Option Addr} {cap : Nat} {ws : List Wd} {fin : Pl} {r : RsC} (h : Pr w X a cap ws fin r) (hk : Wk ws cap) (t : List UInt8) :
    Calls Tryd.prog 14 #[.pointer (some ⟨X, 0, none⟩), .string ⟨t.toArray⟩] w fun e w' => (∃ u, e = .returned u) ∧ Pr w' X a cap ws fin (takeR fin t r) ∧ Fx X w w' := by
  have hS := skips_any h hk t
  cases hi : isC t r with
  | true =>
    rw [hi, skR_yes hi] at hS
    go_enter Tryd.func14, Tryd.ntmps14
    go_wp2_with (first
      | (go_at_call 17; refine hS.mono ?_; rintro e w1 ⟨rfl, hp, hf⟩))
    go_end0
    exact ⟨⟨_, rfl⟩, hp, hf⟩
  | false =>
    rw [hi, skR_no hi] at hS
    rw [take_not hi]
    have hF := fun w1 n (hr : Rr w1 X a cap ws n r.2.2) => pfail_any hr 12
    go_enter Tryd.func14, Tryd.ntmps14
    go_wp2_with (first
      | (go_at_call 17; refine hS.mono ?_; rintro e w1 ⟨rfl, ⟨n, hr, h1, h2, h3⟩, hf⟩)
      | (go_at_call 21; refine (hF _ _ hr).mono ?_; rintro e w2 ⟨⟨u, rfl⟩, hr2, hf2⟩))
    go_end0
    exact ⟨⟨_, rfl⟩, Pr.bad hr2 h1 h2 h3, hf.trans hf2⟩
set_option maxRecDepth 100000 in
set_option maxHeartbeats 4000000 in
theorem last_p {w : World} {X : Nat} {a : Option Addr} {cap : Nat} {ws : List Wd} {fin : Pl} {r : RsC} (h : Pr w X a cap ws fin r) (hk : Wk ws cap) :
    Calls Tryd.prog 8 #[.pointer (some ⟨X, 0, none⟩)] w fun e w' => (∃ u, e = .returned u) ∧ Pr w' X a cap ws fin (lastR fin r) ∧ Fx X w w' := by
  obtain ⟨n, h1, h2, h3, h4⟩ := id h
  have hcap := hk.c
  have hF := fun w1 (hr : Rr w1 X a cap ws n r.2.2) => pfail_any hr 12
  obtain ⟨c0, c1, c2, f1, f2, hL⟩ := id h1
  clear hL
  have hlast : ∀ w', Rr w' X a cap ws n (if r.2.2 = 0 then 12 else r.2.2) → n < ws.length → Pr w' X a cap ws fin (lastR fin r) := fun w' hr hn => by
    have hne : r.1 ≠ [] := by
      rw [h2]
      intro e
      have := congrArg List.length e
      rw [List.length_drop] at this
      simp at this
      omega
    unfold lastR
    by_cases h0 : r.2.2 = 0
    · rw [if_pos ⟨h0, hne⟩]; exact Pr.bad hr h2 h3 h4
    · rw [if_neg (fun e => h0 e.1)]
      rw [if_neg h0] at hr
      exact ⟨n, hr, h2, h3, h4⟩
  by_cases hn : n < ws.length
  · have i1 : decide ((n : Int) < (ws.length : Int)) = true := decide_eq_true (by omega)
    have HL : Hid (∀ w', Rr w' X a cap ws n (if r.2.2 = 0 then 12 else r.2.2) → n < ws.length → Pr w' X a cap ws fin (lastR fin r)) := hlast
    obtain ⟨b, hb⟩ : ∃ b, r.2.2 = b := ⟨_, rfl⟩
    clear hlast h2 h4
    go_enter Tryd.func8, Tryd.ntmps8
    go_wp2
    go_quiet (fail)
    have hr1 := h1.on (draws w nq)
    go_wp2_with (first
      | (go_at_call 21; refine (hF _ hr1).mono ?_; rintro e w2 ⟨⟨u, rfl⟩, hr2, hf2⟩))
    go_end0
    exact ⟨⟨_, rfl⟩, HL.out _ hr2 hn, ((Fx.refl X w).drewN _).trans hf2⟩
  · have i1 : decide (n < ws.length) = false := decide_eq_false hn
    have e : lastR fin r = r := by
      unfold lastR
      rw [if_neg]
      rintro ⟨_, q⟩
      exact q (by rw [h2]; exact List.drop_eq_nil_of_le (by omega))
    rw [e]
    clear hlast h2 h4 e
    go_enter Tryd.func8, Tryd.ntmps8
    go_wp2
    go_quiet (fail)
    go_wp2
    go_end0
    exact ⟨⟨_, rfl⟩, h.on (draws w _), (Fx.refl X w).drewN _⟩
end Go.Proofs.YticniiieijkmmaaDoor

/- The number that digits spell, as strconv.ParseInt tells it. Math alone. -/
namespace Go.Proofs.YticniiieijkmmaaDoor
open Go.RowKit Go.Lib
set_option linter.unusedSimpArgs false
set_option linter.unusedVariables false

theorem valB_ge : ∀ (l : List UInt8) (n : Int), 0 ≤ n → l.all dB = true → n ≤ valB n l
  | [], n, _, _ => Int.le_refl _
  | c :: r, n, hn, h => by
    simp only [List.all_cons, Bool.and_eq_true] at h
    have hd : 48 ≤ c.toNat ∧ c.toNat ≤ 57 := of_decide_eq_true h.1
    have := valB_ge r (10 * n + ((c.toNat : Int) - 48)) (by omega) h.2
    show n ≤ valB (10 * n + ((c.toNat : Int) - 48)) r
    omega
theorem parseM : ∀ (l : List UInt8) (acc : Nat), l.all dB = true → valB (acc : Int) l ≤ 1000000000 → parseUintM (2 ^ 64 - 1) acc l = .ok (valB (acc : Int) l).toNat
  | [], acc, _, _ => by
    show NumEnd.ok acc = .ok ((acc : Int)).toNat
    rw [Int.toNat_natCast]
  | c :: r, acc, h, hb => by
    simp only [List.all_cons, Bool.and_eq_true] at h
    have hd : 48 ≤ c.toNat ∧ c.toNat ≤ 57 := of_decide_eq_true h.1
    have e : valB (acc : Int) (c :: r) = valB ((acc * 10 + (c.toNat - 48) : Nat) : Int) r := by
      show valB (10 * (acc : Int) + ((c.toNat : Int) - 48)) r = _
      congr 1
      omega
    rw [e] at hb ⊢
    have hg := valB_ge r ((acc * 10 + (c.toNat - 48) : Nat) : Int) (by omega) h.2
    rw [parseUintM, if_pos hd, if_neg (by omega), if_neg (by omega)]
    exact parseM r _ h.2 hb
theorem parse_num {b : List UInt8} (h : numB b = true) : parseIntB 64 b = .ok (valB 0 b) := by
  obtain ⟨h1, h2, h3⟩ := num_len h
  have hall : b.all dB = true := by
    unfold numB at h
    simp only [Bool.and_eq_true] at h
    simp_all
  cases b with
  | nil => revert h; decide
  | cons c r =>
    have hc := hall
    simp only [List.all_cons, Bool.and_eq_true] at hc
    have hd : 48 ≤ c.toNat ∧ c.toNat ≤ 57 := of_decide_eq_true hc.1
    have hp := parseM (c :: r) 0 hall h3
    rw [parseIntB_plain 64 c r (by omega) (by omega)]
    unfold parseUintB
    rw [if_neg (by simp), hp]
    show signlessC (2 ^ (64 - 1)) (.ok (valB 0 (c :: r)).toNat) = _
    unfold signlessC
    simp only
    rw [if_neg (by omega), Int.toNat_of_nonneg h2]
end Go.Proofs.YticniiieijkmmaaDoor

/- The number that digits spell, as strconv.Atoi tells it; what kinds of words tell. Math alone. -/
namespace Go.Proofs.YticniiieijkmmaaDoor
open Go.RowKit Go.Lib
set_option linter.unusedSimpArgs false
set_option linter.unusedVariables false

theorem atoiM : ∀ (l : List UInt8) (acc : Nat), l.all dB = true → valB (acc : Int) l ≤ 1000000000 → parseUint10 acc l = .ok (valB (acc : Int) l).toNat
  | [], acc, _, _ => by
    show NumEnd.ok acc = .ok ((acc : Int)).toNat
    rw [Int.toNat_natCast]
  | c :: r, acc, h, hb => by
    simp only [List.all_cons, Bool.and_eq_true] at h
    have hd : 48 ≤ c.toNat ∧ c.toNat ≤ 57 := of_decide_eq_true h.1
    have e : valB (acc : Int) (c :: r) = valB ((acc * 10 + (c.toNat - 48) : Nat) : Int) r := by
      show valB (10 * (acc : Int) + ((c.toNat : Int) - 48)) r = _
      congr 1
      omega
    rw [e] at hb ⊢
    have hg := valB_ge r ((acc * 10 + (c.toNat - 48) : Nat) : Int) (by omega) h.2
    rw [parseUint10, if_pos hd, if_neg (by omega), if_neg (by omega)]
    exact atoiM r _ h.2 hb
theorem atoi_num {b : List UInt8} (h : numB b = true) : atoiAll b = .ok (valB 0 b) := by
  obtain ⟨h1, h2, h3⟩ := num_len h
  have hall : b.all dB = true := by
    unfold numB at h
    simp only [Bool.and_eq_true] at h
    simp_all
  have hle : valB 0 b ≤ 1000000000 := by
    unfold numB at h
    simp only [Bool.and_eq_true, decide_eq_true_eq] at h
    exact h.2
  cases b with
  | nil => revert h; decide
  | cons c r =>
    have hd : 48 ≤ c.toNat ∧ c.toNat ≤ 57 := by
      simp only [List.all_cons, Bool.and_eq_true] at hall
      exact of_decide_eq_true hall.1
    have hm : parseMag (c :: r) = .ok (valB 0 (c :: r)).toNat := by
      unfold parseMag
      rw [if_neg (by simp)]
      exact atoiM (c :: r) 0 hall hle
    have hg := valB_ge (c :: r) 0 (by omega) hall
    unfold atoiAll
    simp only
    rw [if_neg (show ¬ (c.toNat = 43 ∨ c.toNat = 45) by omega), hm]
    simp only
    rw [if_neg (by omega), if_neg (by omega), if_neg (by omega)]
    congr 1
    omega
theorem num_small {b : List UInt8} (h : numB b = true) : 0 ≤ valB 0 b ∧ valB 0 b ≤ 1000000000 := by
  have hall : b.all dB = true := by
    unfold numB at h
    simp only [Bool.and_eq_true] at h
    simp_all
  refine ⟨valB_ge b 0 (by omega) hall, ?_⟩
  unfold numB at h
  simp only [Bool.and_eq_true, decide_eq_true_eq] at h
  exact h.2
theorem nx_dig {c : UInt8} {r : List UInt8} (h : 48 ≤ c.toNat ∧ c.toNat ≤ 57) : (nx (c :: r)).1 = (c.toNat : Int) := by
  obtain ⟨t, _, h2, _⟩ := head_small c r
  exact (h2 (by omega)).2
/-- A name is no number, and no sign. -/
theorem name_num {b : List UInt8} (h : nameS b = true) : numB b = false := by
  cases b with
  | nil => rfl
  | cons c r =>
    unfold nameS at h
    simp only [Bool.and_eq_true] at h
    have hl := h.1.1
    cases hn : numB (c :: r) with
    | false => rfl
    | true =>
      have hall : (c :: r).all dB = true := by
        unfold numB at hn
        simp only [Bool.and_eq_true] at hn
        simp_all
      simp only [List.all_cons, Bool.and_eq_true] at hall
      have hd : 48 ≤ c.toNat ∧ c.toNat ≤ 57 := of_decide_eq_true hall.1
      rw [nx_dig hd, letter_eq] at hl
      simp only [Bool.or_eq_true, Bool.and_eq_true, decide_eq_true_eq] at hl
      omega
theorem seg_head {K : Nat} {seg : List Ru} (h : OneW K seg) {v : Ru} {t : List Ru} (e : seg = v :: t) : (nx (byt seg)).1 = v.1 := by
  have hr := h.runes
  have hb : byt seg ≠ [] := by
    intro e2
    rw [e2] at hr
    rw [← hr] at e
    cases e
  have := runes_cons hb
  rw [hr] at this
  have h2 := e.symm.trans this
  injection h2 with h3 h4
  exact (congrArg Prod.fst h3).symm
/-- A word is of kind 1 just if it is a name. -/
theorem kind_name {K : Nat} {seg : List Ru} (h : OneW K seg) : K = 1 ↔ nameS (byt seg) = true := by
  rcases h.kind with ⟨k, n⟩ | ⟨k, n⟩ | ⟨k, v, t, e, l, d⟩
  · exact ⟨fun _ => n, fun _ => k⟩
  · constructor
    · intro h1; omega
    · intro h1; rw [name_num h1] at n; cases n
  · constructor
    · intro h1; omega
    · intro h1
      unfold nameS at h1
      simp only [Bool.and_eq_true] at h1
      rw [seg_head h e, l] at h1
      exact absurd h1.1.1 (by decide)
/-- A number is not reserved. -/
theorem rsv_num {b : List UInt8} (h : numB b = true) : rsvB b = false := by
  cases hr : rsvB b with
  | false => rfl
  | true =>
    have hall : rsv13.all (fun x => !numB x) = true := by decide
    unfold rsvB at hr
    obtain ⟨x, hx, hb⟩ := List.any_eq_true.1 hr
    have h1 := List.all_eq_true.1 hall x hx
    have h2 : b = x := by simpa using hb
    subst h2
    rw [h] at h1
    exact absurd h1 (by decide)
end Go.Proofs.YticniiieijkmmaaDoor

/- What the program's joinOne and join do. -/
namespace Go.Proofs.YticniiieijkmmaaDoor
open Go.RowKit Go.Lib
set_option linter.unusedSimpArgs false
set_option linter.unusedVariables false
attribute [local go_sem ↓] Go.wp_at_zero Go.wp_at_succ

theorem addr_plain (g i : Nat) : (⟨g, 0, none⟩ : Addr).add i = ⟨g, i, none⟩ := by unfold Addr.add; split <;> simp_all
/-- The last operand, in memory. -/
theorem own_last1 {w : World} {base e : Nat} {v : Value} {x : Sx} {V : List Sx} (h : w.ownsRow base e 1 v (x :: V).length ((x :: V).reverse.map exX)) : ∃ g cap, v = .slice (some ⟨g, 0, none⟩) (V.length + 1) cap ∧ V.length + 1 ≤ cap ∧ cap ≤ maxLen ∧ base ≤ g ∧ g < w.heap.size ∧
    w.cell? ⟨g, V.length, none⟩ = some (exX x) ∧ (∀ j, w.frozen? ⟨g, j, none⟩ = false) ∧ w.ownsRow base e 1 (.slice (some ⟨g, 0, none⟩) (V.length + 1) cap) (V.length + 1) (V.reverse.map exX ++ [exX x]) := by
  rw [List.length_cons, List.reverse_cons, List.map_append] at h
  have hl : (V.reverse.map exX).length = V.length := by simp
  have hc := fun g => World.ownsRow.cells h (g := g)
  have h' := h
  rcases h.2 with ⟨_, h2⟩ | ⟨g, cap, cur, rfl, hb, hg, hnc, hcm, hcs, htake⟩
  · omega
  · have c0 := hc g rfl V.length (exX x) (by rw [List.getElem?_append_right (by omega), hl, Nat.sub_self]; rfl)
    rw [addr_plain] at c0
    exact ⟨g, cap, rfl, hnc, hcm, hb, (Array.getElem?_eq_some_iff.1 hg).1, c0, fun j => World.ownsRow.frozenAt h' j, h'⟩
/-- The last operand written anew. -/
theorem own_set1 {w : World} {base e g cap n : Nat} {xs : List Value} {a u : Value} (hn : xs.length = n) (h : w.ownsRow base e 1 (.slice (some ⟨g, 0, none⟩) (n + 1) cap) (n + 1) (xs ++ [a])) : (w.setCell ⟨g, n, none⟩ u).ownsRow base e 1 (.slice (some ⟨g, 0, none⟩) (n + 1) cap) (n + 1) (xs ++ [u]) := by
  have := (World.ownsRow.stored h n u).1
  subst hn
  rw [List.set_append_right _ _ (Nat.le_refl _), Nat.sub_self] at this
  exact this
theorem rdr_far {w : World} {X g i : Nat} {y : Yd} {vv ww : Value} (h : w.ownsRow (X + 1) 119 2 ww y.W.length (cels2 y.W.reverse)) (ha : ww.ownBlock ≠ some g) (u : Value) : (w.setCell ⟨g, i, none⟩ u).ownsRow (X + 1) 119 2 ww y.W.length (cels2 y.W.reverse) :=
  own_keep h (fun k hk => Below.heap_setCell _ _ _ _ (fun e => ha (by rw [hk]; exact congrArg some e)))

set_option maxRecDepth 100000 in
set_option maxHeartbeats 4000000 in
theorem joinOne_bin {w : World} {X : Nat} {x z : Sx} {V : List Sx} {W : List Sg2} {o : Nat} {b : Bool} {vv ww : Value} (h : Rdr w X ⟨x :: z :: V, W, o, b⟩ vv ww) (s : Sg2) (hs : ¬ s.2 = 6) (hl : V.length ≤ 4000) :
    Calls Tryd.prog 67 #[.pointer (some ⟨X, 0, none⟩), .agg #[.string ⟨s.1.toArray⟩, .int .i64 (s.2 : Int)]] w fun e w' => (∃ u, e = .returned u) ∧ (∃ vv', Rdr w' X ⟨mk2 ⟨s.1.toArray⟩ z x :: V, W, o, b⟩ vv' ww ∧ Fr2 X vv ww w w' vv' ww) ∧ Below X w w' := by
  have hb := h.b
  have hw := h.w
  have ha := h.a
  obtain ⟨g, cap, rfl, h1, h2, h3, h4, c1, fz, ho⟩ := own_last1 h.v
  simp only [List.length_cons] at h1 c1 ho hb ha
  have ho2 : w.ownsRow (X + 1) 71 1 (.slice (some ⟨g, 0, none⟩) (V.length + 1) cap) (V.length + 1) ((z :: V).reverse.map exX) := ownsRow_pop (by simp) ho
  have c0 : w.cell? ⟨g, V.length, none⟩ = some (exX z) := by
    have := World.ownsRow.cells ho2 (g := g) rfl V.length (exX z) (by rw [List.reverse_cons, List.map_append, List.getElem?_append_right (by simp)]; simp)
    rwa [addr_plain] at this
  obtain ⟨q, hq⟩ : ∃ q, exX x = q := ⟨_, rfl⟩
  obtain ⟨r, hr⟩ : ∃ r, exX z = r := ⟨_, rfl⟩
  have hqf := exX_form x
  have hrf := exX_form z
  rw [hq] at c1 hqf
  rw [hr] at c0 hrf
  have l1 : ((s.2 : Int) != 6) = true := by simp; omega
  have i2 : IntKind.i64.wrap ((V.length : Int) + 1 + 1 - 1) = (V.length : Int) + 1 := by rw [IntKind.wrap_i64]; omega
  have i3 : IntKind.i64.wrap ((V.length : Int) + 1 - 1) = (V.length : Int) := by rw [IntKind.wrap_i64]; omega
  have i4 : IntKind.i64.wrap ((V.length : Int) + 1) = (V.length : Int) + 1 := by rw [IntKind.wrap_i64]; omega
  have hbel : Below w.heap.size w (w.alloc (.cells #[.string ⟨s.1.toArray⟩, .int .i64 (s.2 : Int)] 119)) := (Below.refl _ w).alloc (Nat.le_refl _) _
  have hA := hb.keep hbel
  have c1' := (hbel.cell (p := ⟨g, V.length + 1, none⟩) h4).trans c1
  have c0' := (hbel.cell (p := ⟨g, V.length, none⟩) h4).trans c0
  have z1 := (hbel.frozen (p := ⟨g, V.length, none⟩) h4).trans (fz _)
  have ho3 := World.ownsRow.alloc ho2 (.cells #[.string ⟨s.1.toArray⟩, .int .i64 (s.2 : Int)] 119)
  have hw3 := World.ownsRow.alloc hw (.cells #[.string ⟨s.1.toArray⟩, .int .i64 (s.2 : Int)] 119)
  have p1 : (w.alloc (.cells #[.string ⟨s.1.toArray⟩, .int .i64 (s.2 : Int)] 119)).cell? ⟨w.heap.size, 0, none⟩ = some (.string ⟨s.1.toArray⟩) := by simp
  have p2 : (w.alloc (.cells #[.string ⟨s.1.toArray⟩, .int .i64 (s.2 : Int)] 119)).cell? ⟨w.heap.size, 1, none⟩ = some (.int .i64 (s.2 : Int)) := by simp
  obtain ⟨y0, y1, y2, y3, f0, f1, f2, f3⟩ := id hA
  have j1 : (V.length : Int) < (V.length : Int) + 1 + 1 := by omega
  have j2 : (V.length : Int) + 1 < (V.length : Int) + 1 + 1 := by omega
  have j3 : (0 : Int) ≤ (V.length : Int) := by omega
  have j4 : (0 : Int) ≤ (V.length : Int) + 1 := by omega
  have j5 : (V.length : Int) + 1 ≤ (cap : Int) := by omega
  have hu : exX (mk2 ⟨s.1.toArray⟩ z x) = .iface 134 (.agg #[.string ⟨s.1.toArray⟩, r, q]) := by rw [exX_mk2, hr, hq]
  have hXg : g ≠ X := by omega
  have haw : ww.ownBlock ≠ some g := ha g rfl
  have ho4 : (w.alloc (.cells #[.string ⟨s.1.toArray⟩, .int .i64 (s.2 : Int)] 119)).ownsRow (X + 1) 71 1 (.slice (some ⟨g, 0, none⟩) (V.length + 1) cap) (V.length + 1) (V.reverse.map exX ++ [exX z]) := by rw [List.reverse_cons, List.map_append] at ho3; exact ho3
  clear h hb ha hw ho ho2 ho3 c0 c1 fz hq hr
  rcases hqf with rfl | ⟨qu, qy, rfl⟩ <;> rcases hrf with rfl | ⟨ru, ry, rfl⟩
  all_goals (
    go_enter Tryd.func67, Tryd.ntmps67
    go_wp2
    generalize w.alloc (.cells #[.string ⟨s.1.toArray⟩, .int .i64 (s.2 : Int)] 119) = wa at *
    go_region
    have ho5 := own_set1 (u := exX (mk2 ⟨s.1.toArray⟩ z x)) (by simp) ho4
    have hB := hA.far hXg (i := V.length) (exX (mk2 ⟨s.1.toArray⟩ z x))
    have hw4 := rdr_far (y := ⟨mk2 ⟨s.1.toArray⟩ z x :: V, W, o, b⟩) hw3 haw (exX (mk2 ⟨s.1.toArray⟩ z x)) (vv := .nilIface) (i := V.length)
    have hF := (((Fr2.refl X (.slice (some ⟨g, 0, none⟩) (V.length + 1 + 1) cap) ww w).on hbel).setV (g := g) rfl V.length (exX (mk2 ⟨s.1.toArray⟩ z x)))
    have hbel2 : Below X w (wa.setCell ⟨g, V.length, none⟩ (exX (mk2 ⟨s.1.toArray⟩ z x))) := (hbel.mono (by omega)).setCell (by show X ≤ g; omega) _
    rw [hu] at ho5 hB hw4 hbel2 hF
    clear hA y0 y1 y2 y3 f0 f1 f2 f3 ho4 hw3 hbel c0' c1' z1 p1 p2
    obtain ⟨y0, y1, y2, y3, f0, f1, f2, f3⟩ := id hB
    generalize wa.setCell ⟨g, V.length, none⟩ _ = wb at *
    go_wp2
    go_end0
    refine ⟨⟨_, rfl⟩, ⟨_, Rdr.drew ⟨hB.set0 _, ?_, ownsRow_setCell_below hw4 (Nat.lt_succ_self X) _, fun k hk => ?_⟩, ((hF.setX 0 _).on ((Below.refl _ _).drew)).rows rfl rfl⟩, ((hbel2.setCell (Nat.le_refl _) _).drew)⟩
    · show World.ownsRow _ _ _ _ _ (V.length + 1) ((mk2 ⟨s.1.toArray⟩ z x :: V).reverse.map exX)
      rw [List.reverse_cons, List.map_append, List.map_singleton, hu]
      exact ownsRow_setCell_below ho5 (Nat.lt_succ_self X) _
    · simp only [Value.ownBlock, Option.some.injEq] at hk
      rw [← hk]; exact haw)
end Go.Proofs.YticniiieijkmmaaDoor
