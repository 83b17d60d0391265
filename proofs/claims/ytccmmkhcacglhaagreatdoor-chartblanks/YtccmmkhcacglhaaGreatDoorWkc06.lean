import Derived.Test.YtccmmkhcacglhaaGreatDoorWkc05
import Derived.WalkSmall
import Derived.Test.YtccmmkhcacglhaaGreatDoorWkc01
import Derived.BigQuiet
import Derived.Deep.QuietTactic
import Derived.BigRegion
import Derived.Test.YtccmmkhcacglhaaGreatDoorRows
import Derived.Test.YtccmmkhcacglhaaGreatDoorWkc02

/- Rows of expressions that are left to be asked: in memory, popped, grown. -/
namespace Go.Proofs.YtccmmkhcacglhaaGreatDoor
open Go.RowKit Go.Lib
set_option linter.unusedSimpArgs false
set_option linter.unusedVariables false

theorem fld_i (a b c e : Value) (w : World) : (Instr.field 214 (.agg #[a, b, c, e]) 3).run Tryz.prog w = .ok e w := by kernel_rfl
abbrev Sg := (d : Nat) × T d
def exS (x : Sg) : Value := exV x.1 x.2
def cntS (x : Sg) : Nat := cnt x.1 x.2
def ClS (x : Sg) : Prop := Cl x.1 x.2
/-- The slice v, of the call's own from block base on, holds the expressions st. -/
def Stk (w : World) (base : Nat) (v : Value) (st : List Sg) : Prop := w.ownsRow base 139 1 v st.length (st.map exS)
theorem own_on {w w' : World} {base e size : Nat} {v : Value} {n : Nat} {xs : List Value} {B : Nat} (h : w.ownsRow base e size v n xs) (hb : Below B w w') (hB : w.heap.size ≤ B) : w'.ownsRow base e size v n xs := by
  refine ⟨h.1, ?_⟩
  rcases h.2 with hn | ⟨g, cap, cur, rfl, hbg, hg, rest⟩
  · exact .inl hn
  · exact .inr ⟨g, cap, cur, rfl, hbg, by rw [hb.block g (by have := (Array.getElem?_eq_some_iff.1 hg).1; omega)]; exact hg, rest⟩
theorem Stk.on {w w' : World} {base : Nat} {v : Value} {st : List Sg} {B : Nat} (h : Stk w base v st) (hb : Below B w w') (hB : w.heap.size ≤ B) : Stk w' base v st := own_on h hb hB
theorem exS_form (x : Sg) : exS x = .nilIface ∨ ∃ u y, exS x = .iface u y := exV_form x.1 x.2
/-- The last one taken off. -/
theorem Stk.pop {w : World} {base : Nat} {v : Value} {st : List Sg} {x : Sg} (h : Stk w base v (st ++ [x])) : ∃ g cap, v = .slice (some ⟨g, 0, none⟩) (st.length + 1) cap ∧ st.length + 1 ≤ cap ∧ cap ≤ maxLen ∧ base ≤ g ∧ g < w.heap.size ∧
    w.cell? ⟨g, st.length, none⟩ = some (exS x) ∧ Stk w base (.slice (some ⟨g, 0, none⟩) st.length cap) st := by
  unfold Stk at h
  rw [List.length_append, List.length_singleton, List.map_append, List.map_singleton] at h
  have hc := fun g => World.ownsRow.cells h (g := g)
  rcases h.2 with ⟨_, h2⟩ | ⟨g, cap, cur, rfl, hb, hg, hnc, hcm, hcs, htake⟩
  · omega
  · have h1 := hc g rfl st.length (exS x) (by simp)
    rw [show (⟨g, 0, none⟩ : Addr).add st.length = ⟨g, st.length, none⟩ by unfold Addr.add; split <;> simp_all] at h1
    refine ⟨g, cap, rfl, hnc, hcm, hb, (Array.getElem?_eq_some_iff.1 hg).1, h1, by simp, .inr ⟨g, cap, cur, rfl, hb, hg, by omega, hcm, hcs, ?_⟩⟩
    have h3 := congrArg (List.take st.length) htake
    rw [List.take_take] at h3
    simp only [Nat.mul_one] at h3 ⊢
    rw [Nat.min_eq_left (by omega), List.take_left' (by simp)] at h3
    exact h3
theorem Stk.nil {w : World} {base : Nat} {v : Value} (h : Stk w base v []) : ∃ a cap, v = .slice a 0 cap := by
  rcases h.2 with ⟨h1, _⟩ | ⟨g, cap, cur, rfl, _⟩
  · exact ⟨_, _, h1⟩
  · exact ⟨_, _, rfl⟩
theorem Tryz.infoE : (Tryz.prog.info? 139).map (fun i => (i.zero, i.size, i.bytes)) = some (some .nilIface, 1, 16) := by kernel_rfl
theorem Kids.form {w : World} {sl : Value} {l : List Value} (h : Kids w sl l) : ∃ a, sl = .slice a l.length l.length := by
  rcases h with ⟨rfl, rfl⟩ | ⟨g, rfl, _⟩
  · exact ⟨_, rfl⟩
  · exact ⟨_, rfl⟩
theorem Kids.at {w : World} {a : Option Addr} {m c j : Nat} {l : List Value} (h : Kids w (.slice a m c) l) (hj : j < l.length) : ∃ g, a = some ⟨g, 0, none⟩ ∧ w.cell? ⟨g, j, none⟩ = some l[j] := by
  rcases h with ⟨h1, rfl⟩ | ⟨g, h1, hc⟩
  · simp at hj
  · simp only [Value.slice.injEq] at h1
    exact ⟨g, h1.1, hc j hj⟩
theorem Kids.src {w : World} {sl : Value} {l : List Value} (h : Kids w sl l) (hf : ∀ v ∈ l, Ifc v) : Src Tryz.prog 1 212 sl l.length l w := by
  rcases h with ⟨rfl, rfl⟩ | ⟨g, rfl, hc⟩
  · exact Src.ofNil w Tryz.underlying212 0
  · refine Src.ofSlice w Tryz.underlying212 _ _ _ l (by simp) (fun j u hu => ?_) (fun u hu => ?_)
    · have hj : j < l.length := (List.getElem?_eq_some_iff.1 hu).1
      rw [List.getElem?_eq_getElem hj] at hu
      rw [show (⟨g, 0, none⟩ : Addr).add j = ⟨g, j, none⟩ by unfold Addr.add; split <;> simp_all, hc j hj, hu]
    · rcases hf u hu with rfl | ⟨t, y, rfl⟩ <;> rfl
/-- The parts of a tree, each with its depth. -/
def kidS {d : Nat} (ps : List (T d)) : List Sg := ps.map (fun p => ⟨d, p⟩)
theorem kidS_ex {d : Nat} (ps : List (T d)) : (kidS ps).map exS = ps.map (exV d) := by unfold kidS; rw [List.map_map]; rfl
theorem kidS_cnt {d : Nat} (ps : List (T d)) : ((kidS ps).map cntS).sum = (ps.map (cnt d)).sum := by unfold kidS; rw [List.map_map]; rfl
theorem kidS_len {d : Nat} (ps : List (T d)) : (kidS ps).length = ps.length := by simp [kidS]
theorem Stk.push {w : World} {base : Nat} {v : Value} {st : List Sg} {d : Nat} {ps : List (T d)} {n : Nat} (hn : n = st.length + ps.length) (h : w.ownsRow base 139 1 v n (st.map exS ++ ps.map (exV d))) : Stk w base v (st ++ kidS ps) := by
  unfold Stk
  rw [List.length_append, List.map_append, kidS_ex, kidS_len, ← hn]
  exact h
theorem ifc_map {d : Nat} (ps : List (T d)) : ∀ v ∈ ps.map (exV d), Ifc v := fun v hv => by
  obtain ⟨p, _, rfl⟩ := List.mem_map.1 hv
  exact ifc_ex p
/-- What is asked of a tree's parts. -/
theorem Cl.parts {d : Nat} {k n : Int} {s : ByteArray} {ps : List (T d)} (h : Cl (d + 1) (mkT k n s ps)) : ps.length ≤ 2 ∧ ∀ p ∈ ps, Cl d p := by
  rcases h with ⟨_, _, h3⟩ | ⟨_, _, h3⟩ | ⟨_, _, _, p, h4, h5⟩ | ⟨_, _, p, q, h3, h4, h5⟩ | ⟨_, _, _, h4⟩
  · simp only at h3; subst h3; simp
  · simp only at h3; subst h3; simp
  · simp only at h4; subst h4; simpa using h5
  · simp only at h3; subst h3; simp [h4, h5]
  · simp only at h4; subst h4; simp
theorem last_of {α : Type} {l : List α} (h : l ≠ []) : ∃ a x, l = a ++ [x] := ⟨l.dropLast, l.getLast h, (List.dropLast_concat_getLast h).symm⟩
end Go.Proofs.YtccmmkhcacglhaaGreatDoor

/- The program's reader in memory: its operands, and the signs that wait; what is small. -/
namespace Go.Proofs.YtccmmkhcacglhaaGreatDoor
open Go.RowKit Go.Lib
set_option linter.unusedSimpArgs false
set_option linter.unusedVariables false
attribute [local go_sem ↓] Go.wp_at_zero Go.wp_at_succ

def exX (x : Sx) : Value := exV x.1 x.2
theorem exX_form (x : Sx) : exX x = .nilIface ∨ ∃ u y, exX x = .iface u y := exV_form x.1 x.2
theorem exX_mk2 (s : ByteArray) (x y : Sx) : exX (mk2 s x y) = .iface 185 (.agg #[.string s, exX x, exX y]) := foldS_mk2 _ s x y
theorem exX_not (x : Sx) : exX (mk1 3 x) = .iface 182 (.agg #[exX x]) := rfl
theorem exX_neg (x : Sx) : exX (mk1 4 x) = .iface 183 (.agg #[exX x]) := rfl
theorem exX_lit (n : Int) : exX (mk0 1 n ⟨#[]⟩) = .iface 178 (.agg #[.int .i64 n]) := rfl
theorem exX_ref (s : ByteArray) : exX (mk0 2 0 s) = .iface 180 (.agg #[.string s]) := rfl
/-- A sign's cells. -/
def cel2 (s : Sg2) : List Value := [.string ⟨s.1.toArray⟩, .int .i64 (s.2 : Int)]
def cels2 (l : List Sg2) : List Value := l.flatMap cel2
theorem cels2_app (a b : List Sg2) : cels2 (a ++ b) = cels2 a ++ cels2 b := by simp [cels2]
theorem cels2_len (l : List Sg2) : (cels2 l).length = l.length * 2 := by
  induction l with
  | nil => rfl
  | cons a r ih => simp [cels2, cel2] at ih ⊢; omega
/-- The reader in block X: its two rows lie behind it, apart. -/
structure Rdr (w : World) (X : Nat) (y : Yd) (vv ww : Value) : Prop where
  b : B4 w X vv ww (.int .i64 (y.o : Int)) (.bool y.b)
  v : w.ownsRow (X + 1) 139 1 vv y.V.length (y.V.reverse.map exX)
  w : w.ownsRow (X + 1) 295 2 ww y.W.length (cels2 y.W.reverse)
  a : ∀ g, vv.ownBlock = some g → ww.ownBlock ≠ some g
theorem own_keep {w w' : World} {base e size n : Nat} {v : Value} {xs : List Value} (h : w.ownsRow base e size v n xs) (hk : ∀ g, v.ownBlock = some g → w'.heap[g]? = w.heap[g]?) : w'.ownsRow base e size v n xs := ownsRow_keep h hk
theorem Rdr.on {w w' : World} {X : Nat} {y : Yd} {vv ww : Value} (h : Rdr w X y vv ww) (hb : Below w.heap.size w w') : Rdr w' X y vv ww :=
  ⟨h.b.keep hb, own_on h.v hb (Nat.le_refl _), own_on h.w hb (Nat.le_refl _), h.a⟩
theorem Rdr.drew {w : World} {X : Nat} {y : Yd} {vv ww : Value} (h : Rdr w X y vv ww) : Rdr w.drew X y vv ww := ⟨⟨h.b.c0, h.b.c1, h.b.c2, h.b.c3, h.b.f0, h.b.f1, h.b.f2, h.b.f3⟩, h.v, h.w, h.a⟩
theorem Rdr.drewN {w : World} {X : Nat} {y : Yd} {vv ww : Value} (h : Rdr w X y vv ww) (m : Nat) : Rdr (w.drewN m) X y vv ww := h.on ⟨rfl, rfl, rfl, Nat.le_refl _, fun _ _ => rfl⟩
theorem Rdr.lt {w : World} {X : Nat} {y : Yd} {vv ww : Value} (h : Rdr w X y vv ww) : X < w.heap.size := h.b.lt
/-- Nothing has turned but the reader, its two rows, and new blocks; the rows are where they were, or new. -/
structure Fr2 (X : Nat) (vv ww : Value) (w w' : World) (vv' ww' : Value) : Prop where
  size : w.heap.size ≤ w'.heap.size
  block : ∀ k, k < w.heap.size → k ≠ X → vv.ownBlock ≠ some k → ww.ownBlock ≠ some k → w'.heap[k]? = w.heap[k]?
  lv : ∀ g, vv'.ownBlock = some g → vv.ownBlock = some g ∨ w.heap.size ≤ g
  lw : ∀ g, ww'.ownBlock = some g → ww.ownBlock = some g ∨ w.heap.size ≤ g
theorem Fr2.refl (X : Nat) (vv ww : Value) (w : World) : Fr2 X vv ww w w vv ww := ⟨Nat.le_refl _, fun _ _ _ _ _ => rfl, fun _ h => .inl h, fun _ h => .inl h⟩
theorem Fr2.on {X : Nat} {vv ww vv' ww' : Value} {w w1 w2 : World} (h : Fr2 X vv ww w w1 vv' ww') (hb : Below w1.heap.size w1 w2) : Fr2 X vv ww w w2 vv' ww' :=
  ⟨Nat.le_trans h.size hb.size, fun k hk a b c => (hb.block k (Nat.lt_of_lt_of_le hk h.size)).trans (h.block k hk a b c), h.lv, h.lw⟩
theorem Fr2.setX {X : Nat} {vv ww vv' ww' : Value} {w w1 : World} (h : Fr2 X vv ww w w1 vv' ww') (i : Nat) (u : Value) : Fr2 X vv ww w (w1.setCell ⟨X, i, none⟩ u) vv' ww' :=
  ⟨by simpa using h.size, fun k hk a b c => (Below.heap_setCell _ _ _ _ (fun e => a e)).trans (h.block k hk a b c), h.lv, h.lw⟩
theorem Fr2.setV {X g : Nat} {vv ww vv' ww' : Value} {w w1 : World} (h : Fr2 X vv ww w w1 vv' ww') (hg : vv'.ownBlock = some g) (i : Nat) (u : Value) : Fr2 X vv ww w (w1.setCell ⟨g, i, none⟩ u) vv' ww' :=
  ⟨by simpa using h.size, fun k hk a b c => (Below.heap_setCell _ _ _ _ (fun e => by
    rcases h.lv g hg with q | q
    · exact b (by rw [q]; exact congrArg some e.symm)
    · have : k = g := e
      omega)).trans (h.block k hk a b c), h.lv, h.lw⟩
theorem Fr2.rows {X : Nat} {vv ww vv' ww' vv2 ww2 : Value} {w w1 : World} (h : Fr2 X vv ww w w1 vv' ww') (hv : vv2.ownBlock = vv'.ownBlock) (hw : ww2.ownBlock = ww'.ownBlock) : Fr2 X vv ww w w1 vv2 ww2 :=
  ⟨h.size, h.block, fun g hg => h.lv g (hv ▸ hg), fun g hg => h.lw g (hw ▸ hg)⟩
theorem Fr2.trans {X : Nat} {vv ww v1 u1 v2 u2 : Value} {w w1 w2 : World} (h : Fr2 X vv ww w w1 v1 u1) (k : Fr2 X v1 u1 w1 w2 v2 u2) : Fr2 X vv ww w w2 v2 u2 := by
  refine ⟨Nat.le_trans h.size k.size, fun j hj a b c => ?_, fun g hg => ?_, fun g hg => ?_⟩
  · rw [k.block j (Nat.lt_of_lt_of_le hj h.size) a (fun e => ?_) (fun e => ?_), h.block j hj a b c]
    · rcases h.lv j e with q | q
      · exact b q
      · omega
    · rcases h.lw j e with q | q
      · exact c q
      · omega
  · rcases k.lv g hg with q | q
    · exact h.lv g q
    · exact .inr (Nat.le_trans h.size q)
  · rcases k.lw g hg with q | q
    · exact h.lw g q
    · exact .inr (Nat.le_trans h.size q)
theorem own_form {w : World} {base e size n : Nat} {v : Value} {xs : List Value} (h : w.ownsRow base e size v n xs) : ∃ a cap, v = .slice a n cap ∧ n ≤ cap := by
  rcases h.2 with ⟨h1, h2⟩ | ⟨g, cap, cur, h1, _, _, h3, _⟩
  · exact ⟨none, 0, by rw [h1, h2], by omega⟩
  · exact ⟨_, _, h1, h3⟩
/-- The last sign that waits, in memory. -/
theorem own_last2 {w : World} {base e : Nat} {v : Value} {s : Sg2} {W : List Sg2} (h : w.ownsRow base e 2 v (s :: W).length (cels2 (s :: W).reverse)) : ∃ g cap, v = .slice (some ⟨g, 0, none⟩) (W.length + 1) cap ∧ W.length + 1 ≤ cap ∧ cap ≤ maxLen ∧ base ≤ g ∧ g < w.heap.size ∧
    w.cell? ⟨g, W.length * 2, none⟩ = some (.string ⟨s.1.toArray⟩) ∧ w.cell? ⟨g, W.length * 2 + 1, none⟩ = some (.int .i64 (s.2 : Int)) ∧ w.ownsRow base e 2 (.slice (some ⟨g, 0, none⟩) W.length cap) W.length (cels2 W.reverse) := by
  rw [List.length_cons, List.reverse_cons, cels2_app] at h
  have hl : (cels2 W.reverse).length = W.length * 2 := by rw [cels2_len, List.length_reverse]
  have hc := fun g => World.ownsRow.cells h (g := g)
  have h' := h
  rcases h.2 with ⟨_, h2⟩ | ⟨g, cap, cur, rfl, hb, hg, hnc, hcm, hcs, htake⟩
  · omega
  · have c0 := hc g rfl (W.length * 2) (.string ⟨s.1.toArray⟩) (by rw [List.getElem?_append_right (by omega), hl, Nat.sub_self]; rfl)
    have c1 := hc g rfl (W.length * 2 + 1) (.int .i64 (s.2 : Int)) (by rw [List.getElem?_append_right (by omega), hl, Nat.add_sub_cancel_left]; rfl)
    have hp : ∀ i, (⟨g, 0, none⟩ : Addr).add i = ⟨g, i, none⟩ := fun i => by unfold Addr.add; split <;> simp_all
    rw [hp] at c0 c1
    exact ⟨g, cap, rfl, hnc, hcm, hb, (Array.getElem?_eq_some_iff.1 hg).1, c0, c1, ownsRow_pop hl h'⟩
theorem own_nil {w : World} {base e size : Nat} {v : Value} {xs : List Value} (h : w.ownsRow base e size v 0 xs) : ∃ a cap, v = .slice a 0 cap := by
  obtain ⟨a, cap, rfl, _⟩ := own_form h
  exact ⟨a, cap, rfl⟩

set_option maxHeartbeats 1000000 in
theorem last_any {w : World} {X : Nat} {y : Yd} {vv ww : Value} (h : Rdr w X y vv ww) (hl : y.W.length ≤ 4000) : Calls Tryz.prog 222 #[.pointer (some ⟨X, 0, none⟩)] w fun e w' => e = .returned (.int .i64 (topL y.W : Int)) ∧ ∃ m, w' = w.drewN m := by
  have hc := h.b.c1
  have hw := h.w
  clear h
  obtain ⟨V, W, o, b⟩ := y
  simp only at hc hw hl ⊢
  cases W with
  | nil =>
    obtain ⟨a, cap, rfl⟩ := own_nil hw
    clear hw
    go_enter Tryz.func222, Tryz.ntmps222
    go_wp2
    go_ret
    exact ⟨rfl, 0, rfl⟩
  | cons s W =>
    obtain ⟨g, cap, rfl, h1, h2, h3, h4, c0, c1, _⟩ := own_last2 hw
    rw [List.length_cons] at hl
    have i1 : ((W.length : Int) + 1 == 0) = false := beq_eq_false_iff_ne.2 (by omega)
    have i2 : IntKind.i64.wrap ((W.length : Int) + 1 - 1) = (W.length : Int) := by rw [IntKind.wrap_i64]; omega
    have i3 : (W.length : Int) < (W.length : Int) + 1 := by omega
    have i4 : (0 : Int) ≤ (W.length : Int) := by omega
    clear hw
    go_enter Tryz.func222, Tryz.ntmps222
    go_wp2
    go_quiet (fail)
    go_wp2
    go_ret
    exact ⟨rfl, _, rfl⟩
end Go.Proofs.YtccmmkhcacglhaaGreatDoor

/- What the program's joinOne and join do. -/
namespace Go.Proofs.YtccmmkhcacglhaaGreatDoor
open Go.RowKit Go.Lib
set_option linter.unusedSimpArgs false
set_option linter.unusedVariables false
attribute [local go_sem ↓] Go.wp_at_zero Go.wp_at_succ

theorem addr_plain (g i : Nat) : (⟨g, 0, none⟩ : Addr).add i = ⟨g, i, none⟩ := by unfold Addr.add; split <;> simp_all
/-- The last operand, in memory. -/
theorem own_last1 {w : World} {base e : Nat} {v : Value} {x : Sx} {V : List Sx} (h : w.ownsRow base e 1 v (x :: V).length ((x :: V).reverse.map exX)) : ∃ g cap, v = .slice (some ⟨g, 0, none⟩) (V.length + 1) cap ∧ V.length + 1 ≤ cap ∧ cap ≤ maxLen ∧ base ≤ g ∧ g < w.heap.size ∧
    w.cell? ⟨g, V.length, none⟩ = some (exX x) ∧ (∀ j, w.frozen? ⟨g, j, none⟩ = false) ∧ w.ownsRow base e 1 (.slice (some ⟨g, 0, none⟩) (V.length + 1) cap) (V.length + 1) (V.reverse.map exX ++ [exX x]) := by
  rw [List.length_cons, List.reverse_cons, List.map_append] at h
  have hl : (V.reverse.map exX).length = V.length := by simp
  have hc := fun g => World.ownsRow.cells h (g := g)
  have h' := h
  rcases h.2 with ⟨_, h2⟩ | ⟨g, cap, cur, rfl, hb, hg, hnc, hcm, hcs, htake⟩
  · omega
  · have c0 := hc g rfl V.length (exX x) (by rw [List.getElem?_append_right (by omega), hl, Nat.sub_self]; rfl)
    rw [addr_plain] at c0
    exact ⟨g, cap, rfl, hnc, hcm, hb, (Array.getElem?_eq_some_iff.1 hg).1, c0, fun j => World.ownsRow.frozenAt h' j, h'⟩
/-- The last operand written anew. -/
theorem own_set1 {w : World} {base e g cap n : Nat} {xs : List Value} {a u : Value} (hn : xs.length = n) (h : w.ownsRow base e 1 (.slice (some ⟨g, 0, none⟩) (n + 1) cap) (n + 1) (xs ++ [a])) : (w.setCell ⟨g, n, none⟩ u).ownsRow base e 1 (.slice (some ⟨g, 0, none⟩) (n + 1) cap) (n + 1) (xs ++ [u]) := by
  have := (World.ownsRow.stored h n u).1
  subst hn
  rw [List.set_append_right _ _ (Nat.le_refl _), Nat.sub_self] at this
  exact this
theorem rdr_far {w : World} {X g i : Nat} {y : Yd} {vv ww : Value} (h : w.ownsRow (X + 1) 295 2 ww y.W.length (cels2 y.W.reverse)) (ha : ww.ownBlock ≠ some g) (u : Value) : (w.setCell ⟨g, i, none⟩ u).ownsRow (X + 1) 295 2 ww y.W.length (cels2 y.W.reverse) :=
  own_keep h (fun k hk => Below.heap_setCell _ _ _ _ (fun e => ha (by rw [hk]; exact congrArg some e)))

set_option maxRecDepth 100000 in
set_option maxHeartbeats 4000000 in
theorem joinOne_bin {w : World} {X : Nat} {x z : Sx} {V : List Sx} {W : List Sg2} {o : Nat} {b : Bool} {vv ww : Value} (h : Rdr w X ⟨x :: z :: V, W, o, b⟩ vv ww) (s : Sg2) (hs : ¬ s.2 = 6) (hl : V.length ≤ 4000) :
    Calls Tryz.prog 225 #[.pointer (some ⟨X, 0, none⟩), .agg #[.string ⟨s.1.toArray⟩, .int .i64 (s.2 : Int)]] w fun e w' => (∃ u, e = .returned u) ∧ (∃ vv', Rdr w' X ⟨mk2 ⟨s.1.toArray⟩ z x :: V, W, o, b⟩ vv' ww ∧ Fr2 X vv ww w w' vv' ww) ∧ Below X w w' := by
  have hb := h.b
  have hw := h.w
  have ha := h.a
  obtain ⟨g, cap, rfl, h1, h2, h3, h4, c1, fz, ho⟩ := own_last1 h.v
  simp only [List.length_cons] at h1 c1 ho hb ha
  have ho2 : w.ownsRow (X + 1) 139 1 (.slice (some ⟨g, 0, none⟩) (V.length + 1) cap) (V.length + 1) ((z :: V).reverse.map exX) := ownsRow_pop (by simp) ho
  have c0 : w.cell? ⟨g, V.length, none⟩ = some (exX z) := by
    have := World.ownsRow.cells ho2 (g := g) rfl V.length (exX z) (by rw [List.reverse_cons, List.map_append, List.getElem?_append_right (by simp)]; simp)
    rwa [addr_plain] at this
  obtain ⟨q, hq⟩ : ∃ q, exX x = q := ⟨_, rfl⟩
  obtain ⟨r, hr⟩ : ∃ r, exX z = r := ⟨_, rfl⟩
  have hqf := exX_form x
  have hrf := exX_form z
  rw [hq] at c1 hqf
  rw [hr] at c0 hrf
  have l1 : ((s.2 : Int) != 6) = true := by simp; omega
  have i2 : IntKind.i64.wrap ((V.length : Int) + 1 + 1 - 1) = (V.length : Int) + 1 := by rw [IntKind.wrap_i64]; omega
  have i3 : IntKind.i64.wrap ((V.length : Int) + 1 - 1) = (V.length : Int) := by rw [IntKind.wrap_i64]; omega
  have i4 : IntKind.i64.wrap ((V.length : Int) + 1) = (V.length : Int) + 1 := by rw [IntKind.wrap_i64]; omega
  have hbel : Below w.heap.size w (w.alloc (.cells #[.string ⟨s.1.toArray⟩, .int .i64 (s.2 : Int)] 295)) := (Below.refl _ w).alloc (Nat.le_refl _) _
  have hA := hb.keep hbel
  have c1' := (hbel.cell (p := ⟨g, V.length + 1, none⟩) h4).trans c1
  have c0' := (hbel.cell (p := ⟨g, V.length, none⟩) h4).trans c0
  have z1 := (hbel.frozen (p := ⟨g, V.length, none⟩) h4).trans (fz _)
  have ho3 := World.ownsRow.alloc ho2 (.cells #[.string ⟨s.1.toArray⟩, .int .i64 (s.2 : Int)] 295)
  have hw3 := World.ownsRow.alloc hw (.cells #[.string ⟨s.1.toArray⟩, .int .i64 (s.2 : Int)] 295)
  have p1 : (w.alloc (.cells #[.string ⟨s.1.toArray⟩, .int .i64 (s.2 : Int)] 295)).cell? ⟨w.heap.size, 0, none⟩ = some (.string ⟨s.1.toArray⟩) := by simp
  have p2 : (w.alloc (.cells #[.string ⟨s.1.toArray⟩, .int .i64 (s.2 : Int)] 295)).cell? ⟨w.heap.size, 1, none⟩ = some (.int .i64 (s.2 : Int)) := by simp
  obtain ⟨y0, y1, y2, y3, f0, f1, f2, f3⟩ := id hA
  have j1 : (V.length : Int) < (V.length : Int) + 1 + 1 := by omega
  have j2 : (V.length : Int) + 1 < (V.length : Int) + 1 + 1 := by omega
  have j3 : (0 : Int) ≤ (V.length : Int) := by omega
  have j4 : (0 : Int) ≤ (V.length : Int) + 1 := by omega
  have j5 : (V.length : Int) + 1 ≤ (cap : Int) := by omega
  have hu : exX (mk2 ⟨s.1.toArray⟩ z x) = .iface 185 (.agg #[.string ⟨s.1.toArray⟩, r, q]) := by rw [exX_mk2, hr, hq]
  have hXg : g ≠ X := by omega
  have haw : ww.ownBlock ≠ some g := ha g rfl
  have ho4 : (w.alloc (.cells #[.string ⟨s.1.toArray⟩, .int .i64 (s.2 : Int)] 295)).ownsRow (X + 1) 139 1 (.slice (some ⟨g, 0, none⟩) (V.length + 1) cap) (V.length + 1) (V.reverse.map exX ++ [exX z]) := by rw [List.reverse_cons, List.map_append] at ho3; exact ho3
  clear h hb ha hw ho ho2 ho3 c0 c1 fz hq hr
  rcases hqf with rfl | ⟨qu, qy, rfl⟩ <;> rcases hrf with rfl | ⟨ru, ry, rfl⟩
  all_goals (
    go_enter Tryz.func225, Tryz.ntmps225
    go_wp2
    generalize w.alloc (.cells #[.string ⟨s.1.toArray⟩, .int .i64 (s.2 : Int)] 295) = wa at *
    go_region
    have ho5 := own_set1 (u := exX (mk2 ⟨s.1.toArray⟩ z x)) (by simp) ho4
    have hB := hA.far hXg (i := V.length) (exX (mk2 ⟨s.1.toArray⟩ z x))
    have hw4 := rdr_far (y := ⟨mk2 ⟨s.1.toArray⟩ z x :: V, W, o, b⟩) hw3 haw (exX (mk2 ⟨s.1.toArray⟩ z x)) (vv := .nilIface) (i := V.length)
    have hF := (((Fr2.refl X (.slice (some ⟨g, 0, none⟩) (V.length + 1 + 1) cap) ww w).on hbel).setV (g := g) rfl V.length (exX (mk2 ⟨s.1.toArray⟩ z x)))
    have hbel2 : Below X w (wa.setCell ⟨g, V.length, none⟩ (exX (mk2 ⟨s.1.toArray⟩ z x))) := (hbel.mono (by omega)).setCell (by show X ≤ g; omega) _
    rw [hu] at ho5 hB hw4 hbel2 hF
    clear hA y0 y1 y2 y3 f0 f1 f2 f3 ho4 hw3 hbel c0' c1' z1 p1 p2
    obtain ⟨y0, y1, y2, y3, f0, f1, f2, f3⟩ := id hB
    generalize wa.setCell ⟨g, V.length, none⟩ _ = wb at *
    go_wp2
    go_end0
    refine ⟨⟨_, rfl⟩, ⟨_, Rdr.drew ⟨hB.set0 _, ?_, ownsRow_setCell_below hw4 (Nat.lt_succ_self X) _, fun k hk => ?_⟩, ((hF.setX 0 _).on ((Below.refl _ _).drew)).rows rfl rfl⟩, ((hbel2.setCell (Nat.le_refl _) _).drew)⟩
    · show World.ownsRow _ _ _ _ _ (V.length + 1) ((mk2 ⟨s.1.toArray⟩ z x :: V).reverse.map exX)
      rw [List.reverse_cons, List.map_append, List.map_singleton, hu]
      exact ownsRow_setCell_below ho5 (Nat.lt_succ_self X) _
    · simp only [Value.ownBlock, Option.some.injEq] at hk
      rw [← hk]; exact haw)
end Go.Proofs.YtccmmkhcacglhaaGreatDoor

/- What the program's joinOne does with a sign ahead. -/
namespace Go.Proofs.YtccmmkhcacglhaaGreatDoor
open Go.RowKit Go.Lib
set_option linter.unusedSimpArgs false
set_option linter.unusedVariables false
attribute [local go_sem ↓] Go.wp_at_zero Go.wp_at_succ


set_option maxRecDepth 100000 in
set_option maxHeartbeats 4000000 in
theorem joinOne_un {w : World} {X : Nat} {x : Sx} {V : List Sx} {W : List Sg2} {o : Nat} {b : Bool} {vv ww : Value} (h : Rdr w X ⟨x :: V, W, o, b⟩ vv ww) (t : List UInt8) (hl : V.length ≤ 4000) :
    Calls Tryz.prog 225 #[.pointer (some ⟨X, 0, none⟩), .agg #[.string ⟨t.toArray⟩, .int .i64 6]] w fun e w' => (∃ u, e = .returned u) ∧ (∃ vv', Rdr w' X ⟨mk1 (if t = [33] then 3 else 4) x :: V, W, o, b⟩ vv' ww ∧ Fr2 X vv ww w w' vv' ww) ∧ Below X w w' := by
  have hb := h.b
  have hw := h.w
  have ha := h.a
  obtain ⟨g, cap, rfl, h1, h2, h3, h4, c1, fz, ho⟩ := own_last1 h.v
  obtain ⟨q, hq⟩ : ∃ q, exX x = q := ⟨_, rfl⟩
  have hqf := exX_form x
  rw [hq] at c1 hqf
  have i2 : IntKind.i64.wrap ((V.length : Int) + 1 - 1) = (V.length : Int) := by rw [IntKind.wrap_i64]; omega
  have i4 : IntKind.i64.wrap ((V.length : Int) + 1) = (V.length : Int) + 1 := by rw [IntKind.wrap_i64]; omega
  have hbel : Below w.heap.size w (w.alloc (.cells #[.string ⟨t.toArray⟩, .int .i64 6] 295)) := (Below.refl _ w).alloc (Nat.le_refl _) _
  have hA := hb.keep hbel
  have c1' := (hbel.cell (p := ⟨g, V.length, none⟩) h4).trans c1
  have z1 := (hbel.frozen (p := ⟨g, V.length, none⟩) h4).trans (fz _)
  have ho4 := World.ownsRow.alloc ho (.cells #[.string ⟨t.toArray⟩, .int .i64 6] 295)
  have hw3 := World.ownsRow.alloc hw (.cells #[.string ⟨t.toArray⟩, .int .i64 6] 295)
  have p1 : (w.alloc (.cells #[.string ⟨t.toArray⟩, .int .i64 6] 295)).cell? ⟨w.heap.size, 0, none⟩ = some (.string ⟨t.toArray⟩) := by simp
  have p2 : (w.alloc (.cells #[.string ⟨t.toArray⟩, .int .i64 6] 295)).cell? ⟨w.heap.size, 1, none⟩ = some (.int .i64 6) := by simp
  obtain ⟨y0, y1, y2, y3, f0, f1, f2, f3⟩ := id hA
  have j2 : (V.length : Int) < (V.length : Int) + 1 := by omega
  have j3 : (0 : Int) ≤ (V.length : Int) := by omega
  have j4 : (0 : Int) ≤ (V.length : Int) + 1 := by omega
  have j5 : (V.length : Int) + 1 ≤ (cap : Int) := by omega
  have hXg : g ≠ X := by omega
  have haw : ww.ownBlock ≠ some g := ha g rfl
  obtain ⟨k, hk⟩ : ∃ k : Int, (if t = [33] then (3 : Int) else 4) = k := ⟨_, rfl⟩
  rw [hk]
  have hkk : (t == [33]) = true ∧ exX (mk1 k x) = .iface 182 (.agg #[q]) ∨ (t == [33]) = false ∧ exX (mk1 k x) = .iface 183 (.agg #[q]) := by
    rw [← hk, ← hq]
    by_cases e : t = [33]
    · left; rw [if_pos e]; exact ⟨by rw [e]; rfl, exX_not x⟩
    · right; rw [if_neg e]; exact ⟨beq_eq_false_iff_ne.2 e, exX_neg x⟩
  clear h ha c1 fz hq hk
  have hob : ∀ u : Value, (w.setCell ⟨g, V.length, none⟩ u).ownsRow (X + 1) 139 1 (.slice (some ⟨g, 0, none⟩) (V.length + 1) cap) (V.length + 1) (V.reverse.map exX ++ [u]) := fun u => own_set1 (by simp) ho
  have hwb : ∀ u : Value, (w.setCell ⟨g, V.length, none⟩ u).ownsRow (X + 1) 295 2 ww W.length (cels2 W.reverse) := fun u => rdr_far (y := ⟨V, W, o, b⟩) hw haw u (vv := .nilIface)
  have hbb : ∀ u : Value, B4 (w.setCell ⟨g, V.length, none⟩ u) X (.slice (some ⟨g, 0, none⟩) (V.length + 1) cap) ww (.int .i64 (o : Int)) (.bool b) := fun u => hb.far hXg u
  have hbl : ∀ u : Value, Below X w (w.setCell ⟨g, V.length, none⟩ u) := fun u => (Below.refl _ _).setCell (by show X ≤ g; omega) _
  have hfr : ∀ u : Value, Fr2 X (.slice (some ⟨g, 0, none⟩) (V.length + 1) cap) ww w (w.setCell ⟨g, V.length, none⟩ u) (.slice (some ⟨g, 0, none⟩) (V.length + 1) cap) ww := fun u => (Fr2.refl X _ ww w).setV (g := g) rfl V.length u
  have hal : ∀ wx : World, Below wx.heap.size wx (wx.alloc (.cells #[.string ⟨t.toArray⟩, .int .i64 6] 295)) := fun wx => (Below.refl _ _).alloc (Nat.le_refl _) _
  have hX := hb.lt
  clear hb hw ho ho4 hw3 hbel hA
  rcases hqf with rfl | ⟨qu, qy, rfl⟩ <;> rcases hkk with ⟨e1, hu⟩ | ⟨e1, hu⟩
  all_goals (
    have hB := hbb (exX (mk1 k x))
    have ho5 := hob (exX (mk1 k x))
    have hw4 := hwb (exX (mk1 k x))
    have hb2 := hbl (exX (mk1 k x))
    have hF := hfr (exX (mk1 k x))
    rw [hu] at hB ho5 hw4 hb2 hF
    obtain ⟨q0, q1, q2, q3, g0, g1, g2, g3⟩ := id (hB.keep (hal _))
    clear hob hwb hbb hbl hfr
    go_enter Tryz.func225, Tryz.ntmps225
    go_wp2
    go_end0
    refine ⟨⟨_, rfl⟩, ⟨_, ⟨(hB.set0 _).keep (hal _), ?_, World.ownsRow.alloc (ownsRow_setCell_below hw4 (Nat.lt_succ_self X) _) _, fun k hk => ?_⟩, (hF.setX 0 _).on (hal _)⟩, ((hb2.setCell (Nat.le_refl X) _).alloc (by simp; omega) _)⟩
    · show World.ownsRow _ _ _ _ _ (V.length + 1) ((mk1 k x :: V).reverse.map exX)
      rw [List.reverse_cons, List.map_append, List.map_singleton, hu]
      exact World.ownsRow.alloc (ownsRow_setCell_below ho5 (Nat.lt_succ_self X) _) _
    · simp only [Value.ownBlock, Option.some.injEq] at hk
      rw [← hk]; exact haw)
theorem joinOne_any {w : World} {X : Nat} {V : List Sx} {W : List Sg2} {o : Nat} {b : Bool} {vv ww : Value} (h : Rdr w X ⟨V, W, o, b⟩ vv ww) (s : Sg2) (h6 : s.2 = 6 → 1 ≤ V.length) (h2 : s.2 ≠ 6 → 2 ≤ V.length) (hl : V.length ≤ 4000) :
    Calls Tryz.prog 225 #[.pointer (some ⟨X, 0, none⟩), .agg #[.string ⟨s.1.toArray⟩, .int .i64 (s.2 : Int)]] w fun e w' => (∃ u, e = .returned u) ∧ (∃ vv', Rdr w' X ⟨jn1 V s, W, o, b⟩ vv' ww ∧ Fr2 X vv ww w w' vv' ww) ∧ Below X w w' := by
  by_cases hs : s.2 = 6
  · match V, h6 hs, h, hl with
    | x :: V, _, h, hl =>
      have e : jn1 (x :: V) s = mk1 (if s.1 = [33] then 3 else 4) x :: V := by unfold jn1; rw [if_pos hs]
      rw [e, hs]
      exact joinOne_un h s.1 (by rw [List.length_cons] at hl; omega)
  · match V, h2 hs, h, hl with
    | x :: z :: V, _, h, hl =>
      have e : jn1 (x :: z :: V) s = mk2 ⟨s.1.toArray⟩ z x :: V := by unfold jn1; rw [if_neg hs]
      rw [e]
      exact joinOne_bin h s hs (by rw [List.length_cons, List.length_cons] at hl; omega)
end Go.Proofs.YtccmmkhcacglhaaGreatDoor

/- What the program's join does. -/
namespace Go.Proofs.YtccmmkhcacglhaaGreatDoor
open Go.RowKit Go.Lib
set_option linter.unusedSimpArgs false
set_option linter.unusedVariables false
attribute [local go_sem ↓] Go.wp_at_zero Go.wp_at_succ

/-- How many of the signs take two operands; how many are brackets. -/
def bins : List Sg2 → Nat
  | [] => 0
  | s :: W => bins W + (if s.2 = 0 ∨ s.2 = 6 then 0 else 1)
def brk : List Sg2 → Nat
  | [] => 0
  | s :: W => brk W + (if s.2 = 0 then 1 else 0)
theorem jn1_len {V : List Sx} {s : Sg2} {W : List Sg2} (h0 : s.2 ≠ 0) (h : V.length = bins (s :: W) + 1) : (jn1 V s).length = bins W + 1 ∧ (s.2 = 6 → 1 ≤ V.length) ∧ (s.2 ≠ 6 → 2 ≤ V.length) := by
  unfold bins at h
  unfold jn1
  by_cases h6 : s.2 = 6
  · rw [if_pos (.inr h6)] at h
    rw [if_pos h6]
    refine ⟨?_, fun _ => by omega, fun h => absurd h6 h⟩
    match V, h with
    | x :: V, h => exact h
  · rw [if_neg (fun q => q.elim h0 h6)] at h
    rw [if_neg h6]
    refine ⟨?_, fun h => absurd h h6, fun _ => by omega⟩
    match V, h with
    | x :: z :: V, h =>
      rw [List.length_cons, List.length_cons] at h
      show (V.length + 1) = _
      omega
    | [x], h => simp at h
theorem jn_ok {k : Nat} (hk : 1 ≤ k) : ∀ (W : List Sg2) (V : List Sx), V.length = bins W + 1 → (jn k V W).1.length = bins (jn k V W).2 + 1 ∧ brk (jn k V W).2 = brk W ∧ (jn k V W).2.length ≤ W.length ∧ topL (jn k V W).2 < k
  | [], V, h => ⟨h, rfl, Nat.le_refl _, hk⟩
  | s :: W, V, h => by
    unfold jn
    by_cases hs : k ≤ s.2
    · rw [if_pos hs]
      obtain ⟨a, b, c, d⟩ := jn_ok hk W (jn1 V s) (jn1_len (by omega) h).1
      refine ⟨a, ?_, by rw [List.length_cons]; omega, d⟩
      rw [b]
      show brk W = brk W + _
      rw [if_neg (by omega)]; rfl
    · rw [if_neg hs]
      exact ⟨h, rfl, Nat.le_refl _, by show s.2 < k; omega⟩
theorem bins_le : ∀ W, bins W ≤ W.length
  | [] => Nat.le_refl _
  | s :: W => by
    have := bins_le W
    show bins W + _ ≤ W.length + 1
    split <;> omega
/-- How many signs wait, as memory tells. -/
def wlen (X : Nat) (w : World) : Nat := match w.cell? ⟨X, 1, none⟩ with | some (.slice _ n _) => n | _ => 0
theorem Rdr.wlen {w : World} {X : Nat} {y : Yd} {vv ww : Value} (h : Rdr w X y vv ww) : wlen X w = y.W.length := by
  obtain ⟨a, cap, rfl, _⟩ := own_form h.w
  unfold Go.Proofs.YtccmmkhcacglhaaGreatDoor.wlen
  rw [h.b.c1]
/-- The last sign taken off. -/
theorem Rdr.popW {w : World} {X g cap : Nat} {V : List Sx} {s : Sg2} {W : List Sg2} {o : Nat} {b : Bool} {vv : Value} (h : Rdr w X ⟨V, s :: W, o, b⟩ vv (.slice (some ⟨g, 0, none⟩) (W.length + 1) cap)) :
    Rdr (w.setCell ⟨X, 1, none⟩ (.slice (some ⟨g, 0, none⟩) W.length cap)) X ⟨V, W, o, b⟩ vv (.slice (some ⟨g, 0, none⟩) W.length cap) := by
  obtain ⟨g', cap', e, _, _, _, _, _, _, ho⟩ := own_last2 h.w
  simp only [Value.slice.injEq, Option.some.injEq, Addr.mk.injEq, and_true, true_and] at e
  obtain ⟨rfl, rfl⟩ := e
  exact ⟨h.b.set1 _, ownsRow_setCell_below h.v (Nat.lt_succ_self X) _, ownsRow_setCell_below ho (Nat.lt_succ_self X) _, h.a⟩
theorem below_draws (B : Nat) (w : World) (m : Nat) : Below B w (w.drewN m) := ⟨rfl, rfl, rfl, Nat.le_refl _, fun _ _ => rfl⟩

set_option maxRecDepth 100000 in
set_option maxHeartbeats 4000000 in
theorem join_any {w : World} {X : Nat} {V : List Sx} {W : List Sg2} {o : Nat} {b : Bool} {vv ww : Value} (h : Rdr w X ⟨V, W, o, b⟩ vv ww) (k : Nat) (hk : 1 ≤ k) (hk6 : k ≤ 7) (hV : V.length = bins W + 1) (hl : W.length ≤ 3001) :
    Calls Tryz.prog 213 #[.pointer (some ⟨X, 0, none⟩), .int .i64 (k : Int)] w fun e w' => (∃ u, e = .returned u) ∧ (∃ vv' ww', Rdr w' X ⟨(jn k V W).1, (jn k V W).2, o, b⟩ vv' ww' ∧ Fr2 X vv ww w w' vv' ww') ∧ Below X w w' := by
  obtain ⟨R, hR⟩ : ∃ R, jn k V W = R := ⟨_, rfl⟩
  rw [hR]
  have hR0 : Hid (jn k V W = R) := hR
  clear hR
  go_enter Tryz.func213, Tryz.ntmps213
  go_wp2
  go_loopw [] (fun wr => ∃ (V' : List Sx) (W' : List Sg2) (vv' ww' : Value), Rdr wr X ⟨V', W', o, b⟩ vv' ww' ∧ Fr2 X vv ww w wr vv' ww' ∧ Hid (jn k V' W' = R) ∧ Hid (V'.length = bins W' + 1) ∧ W'.length ≤ 3001 ∧ Below X w wr) (fun wr => wlen X wr)
  case atStart => exact ⟨V, W, vv, ww, h, Fr2.refl X vv ww w, hR0, hV, hl, Below.refl _ _⟩
  case round =>
    obtain ⟨V', W', vv', ww', hr, hf, hj, hv, hl', hb⟩ := hrel
    have hL := last_any hr (by show W'.length ≤ 4000; omega)
    simp only at hL
    clear h hR0 hV hl
    by_cases hc : k ≤ topL W'
    · cases W' with
      | nil => exact absurd hc (by show ¬ k ≤ 0; omega)
      | cons s W' =>
      have hc' : k ≤ s.2 := hc
      have i1 : (k : Int) ≤ (topL (s :: W') : Int) := by omega
      have hm := hr.wlen
      obtain ⟨hn1, hn2, hn3⟩ := jn1_len (W := W') (by omega) hv.out
      have hjj : Hid (jn k (jn1 V' s) W' = R) := by
        have := hj.out
        rw [jn, if_pos hc'] at this
        exact this
      have hnn : Hid ((jn1 V' s).length = bins W' + 1) := hn1
      have hvl : V'.length ≤ 4000 := by
        have := bins_le (s :: W')
        have := hv.out
        omega
      obtain ⟨g, cap, rfl, a1, a2, a3, a4, c0, c1, ho⟩ := own_last2 hr.w
      have hJ := fun m => joinOne_any (hr.drewN m) s hn2 hn3 hvl
      have c0' : ∀ m, (wr.drewN m).cell? ⟨g, W'.length * 2, none⟩ = some (.string ⟨s.1.toArray⟩) := fun _ => c0
      have c1' : ∀ m, (wr.drewN m).cell? ⟨g, W'.length * 2 + 1, none⟩ = some (.int .i64 (s.2 : Int)) := fun _ => c1
      have y1 : ∀ m, (wr.drewN m).cell? ⟨X, 1, none⟩ = some (.slice (some ⟨g, 0, none⟩) (W'.length + 1) cap) := fun _ => hr.b.c1
      rw [List.length_cons] at hl'
      have i2 : IntKind.i64.wrap ((W'.length : Int) + 1 - 1) = (W'.length : Int) := by rw [IntKind.wrap_i64]; omega
      have i3 : (W'.length : Int) < (W'.length : Int) + 1 := by omega
      have i4 : (0 : Int) ≤ (W'.length : Int) := by omega
      have i5 : (W'.length : Int) ≤ (cap : Int) := by omega
      clear hj hv hn1 hn2 hn3
      go_wp2_with (first
        | (go_at_call 222; refine hL.mono ?_; rintro e w1 ⟨rfl, m, rfl⟩; have hJm := hJ m; have y1m := y1 m; have c0m := c0' m; have c1m := c1' m; clear hJ y1 c0' c1' c0 c1 hL; have hbm : Below X w (wr.drewN m) := hb.trans (below_draws _ _ m); have hfm := hf.on (below_draws _ _ m); generalize wr.drewN m = wm at *)
        | (go_at_call 225; refine hJm.mono ?_; rintro e w2 ⟨⟨u, rfl⟩, ⟨vv2, hr2, hf2⟩, b2⟩; have hb2 := hbm.trans b2; have hf3 := hfm.trans hf2; obtain ⟨q0, q1, q2, q3, g0, g1, g2, g3⟩ := id hr2.b))
      have hr3 := hr2.popW
      exact ⟨⟨_, _, _, _, hr3, (hf3.setX 1 _).rows rfl rfl, hjj, hnn, by omega, hb2.setCell (Nat.le_refl X) _⟩, by rw [hr3.wlen, hm]; exact Nat.lt_succ_self _⟩
    · have i1 : ¬ (k : Int) ≤ (topL W' : Int) := by omega
      have hjj := hj.out
      rw [jn_skip (by omega)] at hjj
      subst hjj
      go_wp2_with (first
        | (go_at_call 222; refine hL.mono ?_; rintro e w1 ⟨rfl, m, rfl⟩))
      go_end0
      exact ⟨⟨_, rfl⟩, ⟨_, _, hr.drewN m, hf.on (below_draws _ _ m)⟩, hb.trans (below_draws _ _ m)⟩
end Go.Proofs.YtccmmkhcacglhaaGreatDoor

/- What the program's Letter, digit, inWord, runSize, remarkSize, Name do. -/
namespace Go.Proofs.YtccmmkhcacglhaaGreatDoor
open Go.RowKit Go.Lib
set_option linter.unusedSimpArgs false
set_option linter.unusedVariables false

/-- What a range tells of a rune. -/
def rn (r : Int) : Int := if r = -1 then 65533 else r
theorem rn_small {r k : Int} (hk : 0 ≤ k ∧ k < 128) : rn r = k ↔ r = k := by unfold rn; split <;> omega
theorem letter_rn (r : Int) : letter (rn r) = letter r := by
  unfold rn
  split
  · rename_i h; subst h; decide
  · rfl
theorem dgt_rn (r : Int) : dgt (rn r) = dgt r := by
  unfold rn
  split
  · rename_i h; subst h; decide
  · rfl
theorem insd_rn (r : Int) : insd (rn r) = insd r := by
  unfold rn
  split
  · rename_i h; subst h; decide
  · rfl
theorem dec_nx {s : ByteArray} {pos : Nat} (h : pos < s.size) : ((Utf8.decode s pos).1 : Int) = rn (nx ((bl s).drop pos)).1 ∧ (Utf8.decode s pos).2 = (nx ((bl s).drop pos)).2 := by
  have hne := drop_ne (l := bl s) (k := pos) (by rw [bl_length]; exact h)
  have hd : decodeL ((bl s).drop pos) = Utf8.decode s pos := decodeL_drop s pos
  refine ⟨?_, by rw [nx_size hne, hd]⟩
  unfold nx rn
  rw [if_neg hne, hd]
  by_cases hc : (Utf8.decode s pos).1 = 65533 ∧ (Utf8.decode s pos).2 ≤ 1
  · rw [if_pos hc, if_pos rfl, hc.1]; rfl
  · rw [if_neg hc, if_neg (by simp only; omega)]

/-- m runes, of k bytes, lie behind us. -/
structure Gone (l : List UInt8) (m k : Nat) : Prop where
  le : k ≤ l.length
  left : runes (l.drop k) = (runes l).drop m
  size : (byt ((runes l).take m)).length = k
  few : m ≤ k
theorem Gone.zero (l : List UInt8) : Gone l 0 0 := ⟨by omega, rfl, rfl, by omega⟩
theorem Gone.step {l : List UInt8} {m k : Nat} (h : Gone l m k) (hk : k < l.length) : Gone l (m + 1) (k + (nx (l.drop k)).2) := by
  have hne := drop_ne hk
  have hc := runes_cons hne
  have hle := nx_le hne
  have hps := nx_pos hne
  rw [List.length_drop] at hle
  have hd : (runes l).drop m = ((nx (l.drop k)).1, (l.drop k).take (nx (l.drop k)).2) :: runes ((l.drop k).drop (nx (l.drop k)).2) := by rw [← h.left, hc]
  have hd1 : (runes l).drop (m + 1) = runes (l.drop (k + (nx (l.drop k)).2)) := by
    have := congrArg List.tail hd
    rw [List.tail_drop, List.tail_cons, List.drop_drop] at this
    exact this
  refine ⟨by omega, hd1.symm, ?_, by have := h.few; omega⟩
  have e1 := byt_split (runes l) (m + 1)
  rw [hd1, byt_runes _ _ (Nat.le_refl _), byt_runes _ _ (Nat.le_refl _), List.length_drop] at e1
  omega
theorem Gone.take {l : List UInt8} {m k : Nat} (h : Gone l m k) (hk : k < l.length) : (runes l).take (m + 1) = (runes l).take m ++ [((nx (l.drop k)).1, (l.drop k).take (nx (l.drop k)).2)] := by
  have hc := runes_cons (drop_ne hk)
  rw [h.left] at hc
  have hlt : m < (runes l).length := by
    rcases Nat.lt_or_ge m (runes l).length with h1 | h1
    · exact h1
    · rw [List.drop_eq_nil_of_le h1] at hc; cases hc
  rw [List.take_succ_eq_append_getElem hlt]
  rw [List.drop_eq_getElem_cons hlt] at hc
  rw [(List.cons.inj hc).1]

theorem rest_of : ∀ (m : Nat) (R : List Ru), m ≤ R.length → (∀ v ∈ R.take m, v.1 ≠ 10) → (R.drop m = [] ∨ ∃ v t, R.drop m = v :: t ∧ v.1 = 10) → rest R = m
  | 0, R, _, _, h => by
    rcases h with h | ⟨v, t, h, h10⟩
    · rw [List.drop_zero] at h; rw [h]; rfl
    · rw [List.drop_zero] at h; rw [h]; unfold rest; rw [if_pos h10]
  | m + 1, [], hm, _, _ => by simp at hm
  | m + 1, v :: t, hm, h1, h2 => by
    unfold rest
    rw [if_neg (h1 v (by simp)), rest_of m t (by simpa using hm) (fun x hx => h1 x (by simp [hx])) (by simpa using h2)]
/-- How many bytes a remark has, ahead. -/
def rsb (l : List UInt8) : Nat := (byt ((runes l).take (rest (runes l)))).length
theorem Gone.rest_end {l : List UInt8} {m k : Nat} (h : Gone l m k) (hn : ∀ v ∈ (runes l).take m, v.1 ≠ 10) (hs : l.length ≤ k ∨ (nx (l.drop k)).1 = 10) (hm : m ≤ (runes l).length) : rest (runes l) = m ∧ rsb l = k := by
  have e : rest (runes l) = m := by
    refine rest_of m _ hm hn ?_
    rw [← h.left]
    by_cases hk : l.length ≤ k
    · left; rw [List.drop_eq_nil_of_le hk]; rfl
    · right
      refine ⟨_, _, runes_cons (drop_ne (by omega)), ?_⟩
      rcases hs with hs | hs
      · omega
      · exact hs
  exact ⟨e, by unfold rsb; rw [e]; exact h.size⟩

theorem pLetter_any (r : Int) (w : World) : Calls Tryz.prog 106 #[.int .i32 r] w fun e w' => e = .returned (.bool (letter r)) ∧ w = w' := by
  rw [letter_eq]
  go_enter Tryz.func106, Tryz.ntmps106
  go_wp2
  all_goals go_ret
  all_goals (refine ⟨ret_bool ?_, rfl⟩; first | rfl | (rw [Bool.eq_iff_iff]; simp; omega) | (rw [Bool.eq_iff_iff]; simp [*]; omega))
theorem pDigit_any (r : Int) (w : World) : Calls Tryz.prog 108 #[.int .i32 r] w fun e w' => e = .returned (.bool (dgt r)) ∧ w = w' := by
  rw [dgt_eq]
  go_enter Tryz.func108, Tryz.ntmps108
  go_wp2
  all_goals go_ret
  all_goals (refine ⟨ret_bool ?_, rfl⟩; first | rfl | (rw [Bool.eq_iff_iff]; simp; omega) | (rw [Bool.eq_iff_iff]; simp [*]; omega))
theorem pInside_any (r : Int) (w : World) : Calls Tryz.prog 139 #[.int .i32 r] w fun e w' => e = .returned (.bool (insd r)) ∧ w = w' := by
  have h1 := pLetter_any r w
  have h2 := pDigit_any r w
  have h3 : insd r = (letter r || dgt r || r == 95) := rfl
  rw [h3]
  cases ha : letter r <;> rw [ha] at h1
  · cases hb : dgt r <;> rw [hb] at h2
    · go_enter Tryz.func139, Tryz.ntmps139
      go_wp2_with (first
        | (go_at_call 106; refine h1.mono ?_; rintro e w' ⟨rfl, rfl⟩)
        | (go_at_call 108; refine h2.mono ?_; rintro e w' ⟨rfl, rfl⟩))
      go_ret
      exact ⟨ret_bool (by simp), rfl⟩
    · go_enter Tryz.func139, Tryz.ntmps139
      go_wp2_with (first
        | (go_at_call 106; refine h1.mono ?_; rintro e w' ⟨rfl, rfl⟩)
        | (go_at_call 108; refine h2.mono ?_; rintro e w' ⟨rfl, rfl⟩))
      go_ret
      exact ⟨ret_bool (by simp), rfl⟩
  · go_enter Tryz.func139, Tryz.ntmps139
    go_wp2_with (first
      | (go_at_call 106; refine h1.mono ?_; rintro e w' ⟨rfl, rfl⟩)
      | (go_at_call 108; refine h2.mono ?_; rintro e w' ⟨rfl, rfl⟩))
    go_ret
    exact ⟨ret_bool (by simp), rfl⟩

set_option maxHeartbeats 400000 in
theorem pRun_any (s : ByteArray) (w : World) (hs : s.size ≤ 140737488351232) :
    Calls Tryz.prog 107 #[.string s] w fun e w' => e = .returned (.int .i64 (spb (bl s) : Int)) ∧ Below w.heap.size w w' := by
  go_enter Tryz.func107, Tryz.ntmps107
  go_wp2
  go_loopw [] (fun wr => ∃ (m k : Nat), wr.heap[w.heap.size]? = some (.stringIter s k) ∧ Hid (Adv (bl s) m k) ∧ Below w.heap.size w wr) (fun wr => s.size - wr.iterPos w.heap.size)
  case atStart => exact ⟨0, 0, World.iter_heap w s 0, Adv.zero _, (Below.refl _ w).alloc (Nat.le_refl _) _⟩
  case round =>
    obtain ⟨m, k, hit, ha, hb⟩ := hrel
    have hle := ha.out.le
    rw [bl_length] at hle
    by_cases hk : k < s.size
    · have hnx : ∀ ty, (Instr.next (.pointer (some ⟨w.heap.size, 0, none⟩)) true ty).run Tryz.prog wr = _ := fun ty => Lib.run_next_any_at wr w.heap.size s k ty hit hk
      obtain ⟨d1, d2⟩ := dec_nx hk
      have hne := drop_ne (l := bl s) (by rw [bl_length]; exact hk)
      have hps := nx_pos hne
      have hnl := nx_le hne
      rw [List.length_drop, bl_length] at hnl
      obtain ⟨r, hr⟩ : ∃ r, (nx ((bl s).drop k)).1 = r := ⟨_, rfl⟩
      obtain ⟨q, hq⟩ : ∃ q, (nx ((bl s).drop k)).2 = q := ⟨_, rfl⟩
      rw [hr] at d1
      rw [hq] at d2 hps hnl
      rw [d1, d2] at hnx
      have hit2 := Lib.iterAt_heap wr w.heap.size s k (k + q) hit
      have hb2 := Lib.below_iterAt hb (k := w.heap.size) (Nat.le_refl _) s (k + q)
      have h26 := fun w1 => pInside_any (rn r) w1
      rw [insd_rn] at h26
      cases hi : insd r with
      | true =>
        rw [hi] at h26
        have hA : Hid (Adv (bl s) (m + 1) (k + q)) := by have := ha.out.step (by rw [bl_length]; exact hk) (by rw [hr]; exact hi); rw [hq] at this; exact this
        clear hr hq hne hi d1 d2
        go_wp2_with (first
          | (go_at_call 139; refine (h26 _).mono ?_; rintro e w' ⟨rfl, rfl⟩))
        go_roundw
        case rel => exact ⟨m + 1, k + q, hit2, hA, hb2⟩
        case measure => rw [iterPos_of hit2, iterPos_of hit]; omega
      | false =>
        rw [hi] at h26
        have hE : Hid (spn (runes (bl s)) = m) := ha.out.stop (.inr (by rw [hr]; exact hi))
        have hZ : Hid (spb (bl s) = k) := by show spb (bl s) = k; unfold spb; rw [hE.out]; exact ha.out.size
        clear hr hq hne hi d1 d2
        go_wp2_with (first
          | (go_at_call 139; refine (h26 _).mono ?_; rintro e w' ⟨rfl, rfl⟩))
        go_ret
        rw [hZ.out]
        exact ⟨rfl, hb2⟩
    · have hnx : ∀ ty, (Instr.next (.pointer (some ⟨w.heap.size, 0, none⟩)) true ty).run Tryz.prog wr = _ := fun ty => Lib.run_next_end_at wr w.heap.size s k ty hit hk
      have hE : Hid (spn (runes (bl s)) = m) := ha.out.stop (.inl (by rw [bl_length]; omega))
      have hZ : Hid (spb (bl s) = k) := by show spb (bl s) = k; unfold spb; rw [hE.out]; exact ha.out.size
      have hks : k = s.size := by omega
      go_wp2
      go_ret
      rw [hZ.out, hks]
      exact ⟨rfl, hb⟩

set_option maxHeartbeats 400000 in
theorem pRemark_any (s : ByteArray) (w : World) (hs : s.size ≤ 140737488351232) :
    Calls Tryz.prog 105 #[.string s] w fun e w' => e = .returned (.int .i64 (rsb (bl s) : Int)) ∧ Below w.heap.size w w' := by
  go_enter Tryz.func105, Tryz.ntmps105
  go_wp2
  go_loopw [] (fun wr => ∃ (m k : Nat), wr.heap[w.heap.size]? = some (.stringIter s k) ∧ Hid (Gone (bl s) m k) ∧ Hid (∀ v ∈ (runes (bl s)).take m, v.1 ≠ 10) ∧ Hid (m ≤ (runes (bl s)).length) ∧ Below w.heap.size w wr) (fun wr => s.size - wr.iterPos w.heap.size)
  case atStart => exact ⟨0, 0, World.iter_heap w s 0, Gone.zero _, fun v hv => by simp at hv, Nat.zero_le _, (Below.refl _ w).alloc (Nat.le_refl _) _⟩
  case round =>
    obtain ⟨m, k, hit, ha, hno, hmr, hb⟩ := hrel
    have hle := ha.out.le
    rw [bl_length] at hle
    by_cases hk : k < s.size
    · have hnx : ∀ ty, (Instr.next (.pointer (some ⟨w.heap.size, 0, none⟩)) true ty).run Tryz.prog wr = _ := fun ty => Lib.run_next_any_at wr w.heap.size s k ty hit hk
      obtain ⟨d1, d2⟩ := dec_nx hk
      have hkl : k < (bl s).length := by rw [bl_length]; exact hk
      have hne := drop_ne hkl
      have hps := nx_pos hne
      have hnl := nx_le hne
      rw [List.length_drop, bl_length] at hnl
      have hst := ha.out.step hkl
      have htk := ha.out.take hkl
      have hre := fun h => ha.out.rest_end hno.out (.inr h) hmr.out
      have hml : m < (runes (bl s)).length := by
        have := congrArg List.length htk
        rw [List.length_append, List.length_take, List.length_take] at this
        simp at this
        omega
      obtain ⟨r, hr⟩ : ∃ r, (nx ((bl s).drop k)).1 = r := ⟨_, rfl⟩
      obtain ⟨q, hq⟩ : ∃ q, (nx ((bl s).drop k)).2 = q := ⟨_, rfl⟩
      rw [hr] at d1 htk hre
      rw [hq] at d2 hps hnl hst htk
      rw [d1, d2] at hnx
      have hit2 := Lib.iterAt_heap wr w.heap.size s k (k + q) hit
      have hb2 := Lib.below_iterAt hb (k := w.heap.size) (Nat.le_refl _) s (k + q)
      have h10 := rn_small (r := r) (k := 10) (by omega)
      by_cases hi : r = 10
      · have e1 : (rn r == 10) = true := by rw [h10.2 hi]; rfl
        have hZ : Hid (rsb (bl s) = k) := (hre hi).2
        clear hr hq hne hi d1 d2 htk hre hst h10
        go_wp2
        go_ret
        rw [hZ.out]
        exact ⟨rfl, hb2⟩
      · have e1 : (rn r == 10) = false := beq_eq_false_iff_ne.2 (fun e => hi (h10.1 e))
        have hN : Hid (∀ v ∈ (runes (bl s)).take (m + 1), v.1 ≠ 10) := fun v hv => by
          rw [htk] at hv
          rcases List.mem_append.1 hv with hv | hv
          · exact hno.out v hv
          · simp only [List.mem_singleton] at hv; rw [hv]; exact hi
        have hA : Hid (Gone (bl s) (m + 1) (k + q)) := hst
        have hM : Hid (m + 1 ≤ (runes (bl s)).length) := hml
        clear hr hq hne hi d1 d2 htk hre hst h10 hml
        go_wp2
        go_roundw
        case rel => exact ⟨m + 1, k + q, hit2, hA, hN, hM, hb2⟩
        case measure => rw [iterPos_of hit2, iterPos_of hit]; omega
    · have hnx : ∀ ty, (Instr.next (.pointer (some ⟨w.heap.size, 0, none⟩)) true ty).run Tryz.prog wr = _ := fun ty => Lib.run_next_end_at wr w.heap.size s k ty hit hk
      have hZ : Hid (rsb (bl s) = k) := (ha.out.rest_end hno.out (.inl (by rw [bl_length]; omega)) hmr.out).2
      have hks : k = s.size := by omega
      go_wp2
      go_ret
      rw [hZ.out, hks]
      exact ⟨rfl, hb⟩
end Go.Proofs.YtccmmkhcacglhaaGreatDoor
