import Derived.Test.YtccmmkhcacglhaaGreatDoorWkc10
import Derived.Test.YtccmmkhcacglhaaGreatDoorWkc07
import Derived.Test.YtccmmkhcacglhaaGreatDoorWkc04
import Derived.Deep.RegionHeldLaw
import Derived.Deep.DeepCutAuto
import Derived.Test.YtccmmkhcacglhaaGreatDoorWkc11
import Derived.Laws.MakeOwn
import Derived.Test.YtccmmkhcacglhaaGreatDoorWkc17
import Derived.Test.YtccmmkhcacglhaaGreatDoorWkc16
import Derived.Test.YtccmmkhcacglhaaGreatDoorRows
import Derived.Lib.LaidU8
import Derived.Lib.LaidTab
import Derived.MakeChecks
import Derived.Test.YtccmmkhcacglhaaGreatDoorWkc01
import Derived.ProofKit
import Derived.OpenShut
import Derived.ShutString
import Derived.ChangeOld
import Derived.SizedLaws
import Derived.Below

/- What the program's copies of expressions are: the same. -/
namespace Go.Proofs.YtccmmkhcacglhaaGreatDoor
open Go.RowKit Go.Lib
set_option linter.unusedSimpArgs false
set_option linter.unusedVariables false
attribute [local go_sem ↓] Go.wp_at_zero Go.wp_at_succ

theorem al_ref (v : Value) (w : World) : (Instr.typeAssert (.iface 178 v) 139 180 true).run Tryz.prog w = .ok (.tuple #[.agg #[.string ⟨#[]⟩], .bool false]) w := by kernel_rfl
theorem al_not (v : Value) (w : World) : (Instr.typeAssert (.iface 178 v) 139 182 true).run Tryz.prog w = .ok (.tuple #[.agg #[.nilIface], .bool false]) w := by kernel_rfl
theorem al_neg (v : Value) (w : World) : (Instr.typeAssert (.iface 178 v) 139 183 true).run Tryz.prog w = .ok (.tuple #[.agg #[.nilIface], .bool false]) w := by kernel_rfl
theorem al_bin (v : Value) (w : World) : (Instr.typeAssert (.iface 178 v) 139 185 true).run Tryz.prog w = .ok (.tuple #[.agg #[.string ⟨#[]⟩, .nilIface, .nilIface], .bool false]) w := by kernel_rfl
theorem an_ref (w : World) : (Instr.typeAssert .nilIface 139 180 true).run Tryz.prog w = .ok (.tuple #[.agg #[.string ⟨#[]⟩], .bool false]) w := by kernel_rfl
theorem an_not (w : World) : (Instr.typeAssert .nilIface 139 182 true).run Tryz.prog w = .ok (.tuple #[.agg #[.nilIface], .bool false]) w := by kernel_rfl
theorem an_neg (w : World) : (Instr.typeAssert .nilIface 139 183 true).run Tryz.prog w = .ok (.tuple #[.agg #[.nilIface], .bool false]) w := by kernel_rfl
theorem an_bin (w : World) : (Instr.typeAssert .nilIface 139 185 true).run Tryz.prog w = .ok (.tuple #[.agg #[.string ⟨#[]⟩, .nilIface, .nilIface], .bool false]) w := by kernel_rfl
attribute [local go_sem] as_ref_ref as_not_ref as_not_not as_neg_ref as_neg_not as_neg_neg as_bin_ref as_bin_not as_bin_neg as_bin_bin al_ref al_not al_neg al_bin an_ref an_not an_neg an_bin
def CwC (v : Value) : Prop := ∀ w, Calls Tryz.prog 155 #[v] w fun e w' => e = .returned v ∧ Below w.heap.size w w'
set_option maxRecDepth 100000 in
set_option maxHeartbeats 4000000 in
theorem cw_lit (n : Int) : CwC (.iface 178 (.agg #[.int .i64 n])) := by
  intro w
  go_enter Tryz.func155, Tryz.ntmps155
  go_wp2
  go_ret
  exact ⟨rfl, Below.refl _ _⟩
set_option maxRecDepth 100000 in
set_option maxHeartbeats 4000000 in
theorem cw_nil : CwC .nilIface := by
  intro w
  go_enter Tryz.func155, Tryz.ntmps155
  go_wp2
  go_ret
  exact ⟨rfl, Below.refl _ _⟩
set_option maxRecDepth 100000 in
set_option maxHeartbeats 4000000 in
theorem cw_ref (s : ByteArray) (hs : s.size ≤ 140737488351232) : CwC (.iface 180 (.agg #[.string s])) := by
  intro w
  have h1 := fun w1 => pClone_any s w1 hs
  go_enter Tryz.func155, Tryz.ntmps155
  go_wp2_with (first
    | (go_at_call 46; refine (h1 _).mono ?_; rintro e w1 ⟨rfl, b1⟩))
  go_ret
  exact ⟨rfl, ((Below.refl w.heap.size w).alloc (Nat.le_refl _) _).trans (b1.mono (by simp))⟩
set_option maxRecDepth 100000 in
set_option maxHeartbeats 4000000 in
theorem cw_not (v : Value) (hv : Ifc v) (h : CwC v) : CwC (.iface 182 (.agg #[v])) := by
  intro w
  rcases hv with rfl | ⟨u, y, rfl⟩
  · go_enter Tryz.func155, Tryz.ntmps155
    go_wp2_with (first
      | (go_at_call 155; refine (h _).mono ?_; rintro e w1 ⟨rfl, b1⟩))
    go_ret
    exact ⟨rfl, ((Below.refl w.heap.size w).alloc (Nat.le_refl _) _).trans (b1.mono (by simp))⟩
  · go_enter Tryz.func155, Tryz.ntmps155
    go_wp2_with (first
      | (go_at_call 155; refine (h _).mono ?_; rintro e w1 ⟨rfl, b1⟩))
    go_ret
    exact ⟨rfl, ((Below.refl w.heap.size w).alloc (Nat.le_refl _) _).trans (b1.mono (by simp))⟩
set_option maxRecDepth 100000 in
set_option maxHeartbeats 4000000 in
theorem cw_neg (v : Value) (hv : Ifc v) (h : CwC v) : CwC (.iface 183 (.agg #[v])) := by
  intro w
  rcases hv with rfl | ⟨u, y, rfl⟩
  · go_enter Tryz.func155, Tryz.ntmps155
    go_wp2_with (first
      | (go_at_call 155; refine (h _).mono ?_; rintro e w1 ⟨rfl, b1⟩))
    go_ret
    exact ⟨rfl, ((Below.refl w.heap.size w).alloc (Nat.le_refl _) _).trans (b1.mono (by simp))⟩
  · go_enter Tryz.func155, Tryz.ntmps155
    go_wp2_with (first
      | (go_at_call 155; refine (h _).mono ?_; rintro e w1 ⟨rfl, b1⟩))
    go_ret
    exact ⟨rfl, ((Below.refl w.heap.size w).alloc (Nat.le_refl _) _).trans (b1.mono (by simp))⟩
theorem Below.nx {w wc w1 : World} (h : Below w.heap.size w wc) (b : Below wc.heap.size wc w1) : Below w.heap.size w w1 := h.trans (b.mono h.size)
theorem Below.nxd {w wc w1 : World} (h : Below w.heap.size w wc) (b : Below wc.drew.heap.size wc.drew w1) : Below w.heap.size w w1 := (h.drew).trans (b.mono h.size)
set_option maxRecDepth 100000 in
set_option maxHeartbeats 8000000 in
theorem cw_bin (s : ByteArray) (hs : s.size ≤ 140737488351232) (u v : Value) (hu : Ifc u) (hv : Ifc v) (h : CwC u) (h' : CwC v) : CwC (.iface 185 (.agg #[.string s, u, v])) := by
  intro w
  have h1 := fun w1 => pClone_any s w1 hs
  have hal := (Below.refl w.heap.size w).alloc (Nat.le_refl _) (.cells #[.string s, u, v] 185)
  have c0 : (w.alloc (.cells #[.string s, u, v] 185)).cell? ⟨w.heap.size, 0, none⟩ = some (.string s) := by simp
  have c1 : (w.alloc (.cells #[.string s, u, v] 185)).cell? ⟨w.heap.size, 1, none⟩ = some u := by simp
  have c2 : (w.alloc (.cells #[.string s, u, v] 185)).cell? ⟨w.heap.size, 2, none⟩ = some v := by simp
  have hlt : w.heap.size < (w.alloc (.cells #[.string s, u, v] 185)).heap.size := by simp
  rcases hu with rfl | ⟨u1, y1, rfl⟩ <;> rcases hv with rfl | ⟨u2, y2, rfl⟩
  · have g1 : ∀ w1, Calls Tryz.prog 155 #[.nilIface] w1 fun e w' => e = .returned (.nilIface) ∧ Below w1.heap.size w1 w' := h
    have g2 : ∀ w1, Calls Tryz.prog 155 #[.nilIface] w1 fun e w' => e = .returned (.nilIface) ∧ Below w1.heap.size w1 w' := h'
    clear h h'
    go_enter Tryz.func155, Tryz.ntmps155
    go_upto_region 13 with fail
    generalize w.alloc (.cells #[.string s, .nilIface, .nilIface] 185) = wx at *
    have hB : Below wx.heap.size wx wx := Below.refl _ _
    obtain ⟨S, hS⟩ : ∃ S, w.heap.size = S := ⟨_, rfl⟩
    rw [hS] at c0 c1 c2 hlt ⊢
    go_region_held_law (fun w' => w'.cell? ⟨S, 0, none⟩ = some (.string s) ∧ w'.cell? ⟨S, 1, none⟩ = some (.nilIface) ∧ w'.cell? ⟨S, 2, none⟩ = some (.nilIface))
      (exact ⟨(hB.cell (p := ⟨S, 0, none⟩) hlt).trans c0, (hB.cell (p := ⟨S, 1, none⟩) hlt).trans c1, (hB.cell (p := ⟨S, 2, none⟩) hlt).trans c2⟩)
      (first
        | (go_at_call 46; (with_reducible refine (h1 _).mono ?_); rintro e w1 ⟨rfl, b1⟩; first | have hB := Below.nxd hB b1 | have hB := Below.nx hB b1)
        | (go_at_call 155; (with_reducible refine (g1 _).mono ?_); rintro e w1 ⟨rfl, b1⟩; first | have hB := Below.nxd hB b1 | have hB := Below.nx hB b1)
        | (go_at_call 155; (with_reducible refine (g2 _).mono ?_); rintro e w1 ⟨rfl, b1⟩; first | have hB := Below.nxd hB b1 | have hB := Below.nx hB b1)
        | fail)
    all_goals (
      go_wp2
      go_ret
      exact ⟨rfl, hal.trans (hB.mono (by rw [hS]; omega))⟩)
  · have g1 : ∀ w1, Calls Tryz.prog 155 #[.nilIface] w1 fun e w' => e = .returned (.nilIface) ∧ Below w1.heap.size w1 w' := h
    have g2 : ∀ w1, Calls Tryz.prog 155 #[.iface u2 y2] w1 fun e w' => e = .returned (.iface u2 y2) ∧ Below w1.heap.size w1 w' := h'
    clear h h'
    go_enter Tryz.func155, Tryz.ntmps155
    go_upto_region 13 with fail
    generalize w.alloc (.cells #[.string s, .nilIface, .iface u2 y2] 185) = wx at *
    have hB : Below wx.heap.size wx wx := Below.refl _ _
    obtain ⟨S, hS⟩ : ∃ S, w.heap.size = S := ⟨_, rfl⟩
    rw [hS] at c0 c1 c2 hlt ⊢
    go_region_held_law (fun w' => w'.cell? ⟨S, 0, none⟩ = some (.string s) ∧ w'.cell? ⟨S, 1, none⟩ = some (.nilIface) ∧ w'.cell? ⟨S, 2, none⟩ = some (.iface u2 y2))
      (exact ⟨(hB.cell (p := ⟨S, 0, none⟩) hlt).trans c0, (hB.cell (p := ⟨S, 1, none⟩) hlt).trans c1, (hB.cell (p := ⟨S, 2, none⟩) hlt).trans c2⟩)
      (first
        | (go_at_call 46; (with_reducible refine (h1 _).mono ?_); rintro e w1 ⟨rfl, b1⟩; first | have hB := Below.nxd hB b1 | have hB := Below.nx hB b1)
        | (go_at_call 155; (with_reducible refine (g1 _).mono ?_); rintro e w1 ⟨rfl, b1⟩; first | have hB := Below.nxd hB b1 | have hB := Below.nx hB b1)
        | (go_at_call 155; (with_reducible refine (g2 _).mono ?_); rintro e w1 ⟨rfl, b1⟩; first | have hB := Below.nxd hB b1 | have hB := Below.nx hB b1)
        | fail)
    all_goals (
      go_wp2
      go_ret
      exact ⟨rfl, hal.trans (hB.mono (by rw [hS]; omega))⟩)
  · have g1 : ∀ w1, Calls Tryz.prog 155 #[.iface u1 y1] w1 fun e w' => e = .returned (.iface u1 y1) ∧ Below w1.heap.size w1 w' := h
    have g2 : ∀ w1, Calls Tryz.prog 155 #[.nilIface] w1 fun e w' => e = .returned (.nilIface) ∧ Below w1.heap.size w1 w' := h'
    clear h h'
    go_enter Tryz.func155, Tryz.ntmps155
    go_upto_region 13 with fail
    generalize w.alloc (.cells #[.string s, .iface u1 y1, .nilIface] 185) = wx at *
    have hB : Below wx.heap.size wx wx := Below.refl _ _
    obtain ⟨S, hS⟩ : ∃ S, w.heap.size = S := ⟨_, rfl⟩
    rw [hS] at c0 c1 c2 hlt ⊢
    go_region_held_law (fun w' => w'.cell? ⟨S, 0, none⟩ = some (.string s) ∧ w'.cell? ⟨S, 1, none⟩ = some (.iface u1 y1) ∧ w'.cell? ⟨S, 2, none⟩ = some (.nilIface))
      (exact ⟨(hB.cell (p := ⟨S, 0, none⟩) hlt).trans c0, (hB.cell (p := ⟨S, 1, none⟩) hlt).trans c1, (hB.cell (p := ⟨S, 2, none⟩) hlt).trans c2⟩)
      (first
        | (go_at_call 46; (with_reducible refine (h1 _).mono ?_); rintro e w1 ⟨rfl, b1⟩; first | have hB := Below.nxd hB b1 | have hB := Below.nx hB b1)
        | (go_at_call 155; (with_reducible refine (g1 _).mono ?_); rintro e w1 ⟨rfl, b1⟩; first | have hB := Below.nxd hB b1 | have hB := Below.nx hB b1)
        | (go_at_call 155; (with_reducible refine (g2 _).mono ?_); rintro e w1 ⟨rfl, b1⟩; first | have hB := Below.nxd hB b1 | have hB := Below.nx hB b1)
        | fail)
    all_goals (
      go_wp2
      go_ret
      exact ⟨rfl, hal.trans (hB.mono (by rw [hS]; omega))⟩)
  · have g1 : ∀ w1, Calls Tryz.prog 155 #[.iface u1 y1] w1 fun e w' => e = .returned (.iface u1 y1) ∧ Below w1.heap.size w1 w' := h
    have g2 : ∀ w1, Calls Tryz.prog 155 #[.iface u2 y2] w1 fun e w' => e = .returned (.iface u2 y2) ∧ Below w1.heap.size w1 w' := h'
    clear h h'
    go_enter Tryz.func155, Tryz.ntmps155
    go_upto_region 13 with fail
    generalize w.alloc (.cells #[.string s, .iface u1 y1, .iface u2 y2] 185) = wx at *
    have hB : Below wx.heap.size wx wx := Below.refl _ _
    obtain ⟨S, hS⟩ : ∃ S, w.heap.size = S := ⟨_, rfl⟩
    rw [hS] at c0 c1 c2 hlt ⊢
    go_region_held_law (fun w' => w'.cell? ⟨S, 0, none⟩ = some (.string s) ∧ w'.cell? ⟨S, 1, none⟩ = some (.iface u1 y1) ∧ w'.cell? ⟨S, 2, none⟩ = some (.iface u2 y2))
      (exact ⟨(hB.cell (p := ⟨S, 0, none⟩) hlt).trans c0, (hB.cell (p := ⟨S, 1, none⟩) hlt).trans c1, (hB.cell (p := ⟨S, 2, none⟩) hlt).trans c2⟩)
      (first
        | (go_at_call 46; (with_reducible refine (h1 _).mono ?_); rintro e w1 ⟨rfl, b1⟩; first | have hB := Below.nxd hB b1 | have hB := Below.nx hB b1)
        | (go_at_call 155; (with_reducible refine (g1 _).mono ?_); rintro e w1 ⟨rfl, b1⟩; first | have hB := Below.nxd hB b1 | have hB := Below.nx hB b1)
        | (go_at_call 155; (with_reducible refine (g2 _).mono ?_); rintro e w1 ⟨rfl, b1⟩; first | have hB := Below.nxd hB b1 | have hB := Below.nx hB b1)
        | fail)
    all_goals (
      go_wp2
      go_ret
      exact ⟨rfl, hal.trans (hB.mono (by rw [hS]; omega))⟩)
theorem ifc_of (d : Nat) (t : T d) : Ifc (exV d t) := exV_form d t
theorem copiedW : ∀ (d : Nat) (t : T d), Cl d t → shrt 1000 d t = true → CwC (exV d t)
  | 0, t, _, _ => Empty.elim t
  | d + 1, t, hc, hs => by
    rcases hc.cases with ⟨n, rfl⟩ | ⟨s, rfl⟩ | ⟨k, p, hk, rfl, hp⟩ | ⟨s, p, q, rfl, hp, hq⟩ | rfl
    · exact cw_lit n
    · rw [shrt_mk, Bool.and_eq_true, decide_eq_true_eq] at hs
      exact cw_ref s (by omega)
    · rw [shrt_mk, Bool.and_eq_true, List.all_cons, Bool.and_eq_true] at hs
      have h := copiedW d p hp hs.2.1
      rcases hk with rfl | rfl
      · exact cw_not _ (ifc_of d p) h
      · exact cw_neg _ (ifc_of d p) h
    · rw [shrt_mk, Bool.and_eq_true, decide_eq_true_eq, List.all_cons, Bool.and_eq_true, List.all_cons, Bool.and_eq_true] at hs
      exact cw_bin s (by omega) _ _ (ifc_of d p) (ifc_of d q) (copiedW d p hp hs.2.1) (copiedW d q hq hs.2.2.1)
    · exact cw_nil
theorem copied_any {d : Nat} {t : T d} (hc : Cl d t) (hn : cnt d t ≤ 100000) (hs : shrt 1000 d t = true) (w : World) : Calls Tryz.prog 127 #[exV d t] w fun e w' => e = .returned (exV d t) ∧ Below w.heap.size w w' := by
  have h1 := fun w1 => pNodes_cnt d t w1 hc hn
  have h2 : ∀ w1, Calls Tryz.prog 155 #[exV d t] w1 fun e w' => e = .returned (exV d t) ∧ Below w1.heap.size w1 w' := copiedW d t hc hs
  generalize exV d t = v at *
  obtain ⟨n, hn⟩ : ∃ n, min (cnt d t) 41 = n := ⟨_, rfl⟩
  rw [hn] at h1
  clear hn
  by_cases hq : 40 < n
  · have i1 : (40 : Int) < (n : Int) := by omega
    go_enter Tryz.func127, Tryz.ntmps127
    go_wp2_with (first
      | (go_at_call 154; refine (h1 _).mono ?_; rintro e w1 ⟨rfl, b1⟩))
    go_ret
    exact ⟨rfl, b1⟩
  · have i1 : ¬ (40 : Int) < (n : Int) := by omega
    go_enter Tryz.func127, Tryz.ntmps127
    go_wp2_with (first
      | (go_at_call 154; refine (h1 _).mono ?_; rintro e w1 ⟨rfl, b1⟩)
      | (go_at_call 155; refine (h2 _).mono ?_; rintro e w2 ⟨rfl, b2⟩))
    go_ret
    exact ⟨rfl, Below.nx b1 b2⟩
end Go.Proofs.YtccmmkhcacglhaaGreatDoor

/- A row under construction: made, then written element by element. -/
namespace Go.Proofs.YtccmmkhcacglhaaGreatDoor
open Go.RowKit Go.Lib
set_option linter.unusedSimpArgs false
set_option linter.unusedVariables false

/-- In block G a row of n elements of k cells; the first of them are these. -/
def RowG {α : Type} (w : World) (G k n : Nat) (R : (Nat → Prop) → World → α → List Value → Prop) (l : List α) : Prop :=
  (∀ j, j < n * k → (∃ u, w.cell? ⟨G, j, none⟩ = some u) ∧ w.frozen? ⟨G, j, none⟩ = false) ∧
  ∀ (i : Nat) (h : i < l.length), ∃ cs, cs.length = k ∧ R (fun b => G < b) w l[i] cs ∧ ∀ j u, cs[j]? = some u → w.cell? ⟨G, i * k + j, none⟩ = some u
theorem RowG.made {α : Type} (w : World) (z : Array Value) (k n : Nat) (e : TypeId) (R : (Nat → Prop) → World → α → List Value → Prop) : RowG (w.alloc (.cells (madeCells z (n * k)) e)) w.heap.size k n R ([] : List α) := by
  refine ⟨fun j hj => ⟨?_, by simp⟩, fun i h => absurd h (by simp)⟩
  rw [World.cell?_alloc_new]
  have hs : j < (madeCells z (n * k)).size := by rw [size_madeCells]; exact hj
  exact ⟨_, Array.getElem?_eq_getElem hs⟩
theorem RowG.on {α : Type} {w w' : World} {G k n : Nat} {R : (Nat → Prop) → World → α → List Value → Prop} {l : List α} (hR : Kp R) (hG : G < w.heap.size) (h : RowG w G k n R l) (hb : Below w.heap.size w w') : RowG w' G k n R l := by
  refine ⟨fun j hj => ?_, fun i hi => ?_⟩
  · obtain ⟨⟨u, hu⟩, hf⟩ := h.1 j hj
    exact ⟨⟨u, (hb.cell (p := ⟨G, j, none⟩) hG).trans hu⟩, (hb.frozen (p := ⟨G, j, none⟩) hG).trans hf⟩
  · obtain ⟨cs, h1, h2, h3⟩ := h.2 i hi
    exact ⟨cs, h1, hR h2 (fun b hb' hl => ⟨hb', hb.block b hl⟩), fun j u hu => (hb.cell (p := ⟨G, i * k + j, none⟩) hG).trans (h3 j u hu)⟩
theorem putL_cell : ∀ (cs : List Value) (w : World) (G o j : Nat), (∀ i, i < cs.length → ∃ u, w.cell? ⟨G, o + i, none⟩ = some u) → (putL w G o cs).cell? ⟨G, j, none⟩ = if o ≤ j ∧ j < o + cs.length then cs[j - o]? else w.cell? ⟨G, j, none⟩
  | [], w, G, o, j, _ => by rw [if_neg (by simp only [List.length_nil]; omega)]; rfl
  | c :: cs, w, G, o, j, h => by
    have h' : ∀ i, i < cs.length → ∃ u, (w.setCell ⟨G, o, none⟩ c).cell? ⟨G, o + 1 + i, none⟩ = some u := fun i hi => by
      obtain ⟨u, hu⟩ := h (i + 1) (by simp; omega)
      exact ⟨u, cell_far4 (by omega) (by rw [show o + 1 + i = o + (i + 1) by omega]; exact hu)⟩
    show (putL (w.setCell ⟨G, o, none⟩ c) G (o + 1) cs).cell? ⟨G, j, none⟩ = _
    rw [putL_cell cs _ G (o + 1) j h']
    obtain ⟨u, hu⟩ := h 0 (by simp)
    rw [Nat.add_zero] at hu
    by_cases hj : o + 1 ≤ j ∧ j < o + 1 + cs.length
    · rw [if_pos hj, if_pos (by simp only [List.length_cons]; omega), show j - o = (j - (o + 1)) + 1 by omega, List.getElem?_cons_succ]
    · rw [if_neg hj]
      by_cases he : o = j
      · subst he
        rw [if_pos (by simp only [List.length_cons]; omega), Nat.sub_self, List.getElem?_cons_zero]
        exact cell_same4 hu
      · rw [if_neg (by simp only [List.length_cons]; omega)]
        cases hw : w.cell? ⟨G, j, none⟩ with
        | some v => exact cell_far4 (by omega) hw
        | none =>
          unfold World.setCell World.cell? at *
          simp only [Array.getElem?_modify] at hw ⊢
          by_cases hb : w.heap[G]? = none
          · simp [hb]
          · obtain ⟨x, hx⟩ := Option.ne_none_iff_exists'.1 hb
            simp only [hx] at hw ⊢
            cases x <;> simp_all [Array.getElem?_set]
theorem putL_frozen : ∀ (cs : List Value) (w : World) (G o : Nat) (p : Addr), (putL w G o cs).frozen? p = w.frozen? p
  | [], w, G, o, p => rfl
  | c :: cs, w, G, o, p => by
    show (putL (w.setCell ⟨G, o, none⟩ c) G (o + 1) cs).frozen? p = _
    rw [putL_frozen cs _ G (o + 1) p]
    exact World.frozen?_setCell _ _ _ _
theorem mul_in {i j k m : Nat} (hi : i < m) (hj : j < k) : i * k + j < m * k := by
  have : (i + 1) * k ≤ m * k := Nat.mul_le_mul_right k hi
  rw [Nat.succ_mul] at this
  omega
theorem RowG.put {α : Type} {w : World} {G k n : Nat} {R : (Nat → Prop) → World → α → List Value → Prop} {l : List α} {x : α} {cs : List Value} (hR : Kp R) (h : RowG w G k n R l) (hl : l.length < n) (hk : cs.length = k) (hp : R (fun b => G < b) w x cs) : RowG (putL w G (l.length * k) cs) G k n R (l ++ [x]) := by
  have hin : ∀ i, i < cs.length → ∃ u, w.cell? ⟨G, l.length * k + i, none⟩ = some u := fun i hi => (h.1 _ (mul_in hl (by omega))).1
  have hc := fun j => putL_cell cs w G (l.length * k) j hin
  have hkp : ∀ b, G < b → b < w.heap.size → G < b ∧ (putL w G (l.length * k) cs).heap[b]? = w.heap[b]? := fun b hb _ => ⟨hb, putL_heap cs w G _ b (by omega)⟩
  refine ⟨fun j hj => ⟨?_, (putL_frozen cs w G _ _).trans (h.1 j hj).2⟩, fun i hi => ?_⟩
  · rw [hc]
    split
    · next hr => exact ⟨_, List.getElem?_eq_getElem (by omega)⟩
    · exact (h.1 j hj).1
  · rcases Nat.lt_or_ge i l.length with hlt | hge
    · obtain ⟨cs', h1, h2, h3⟩ := h.2 i hlt
      rw [List.getElem_append_left hlt]
      refine ⟨cs', h1, hR h2 hkp, fun j u hu => ?_⟩
      have hjk : j < k := by
        have := (List.getElem?_eq_some_iff.1 hu).1
        omega
      have := mul_in hlt hjk
      rw [hc, if_neg (by omega)]
      exact h3 j u hu
    · have : i = l.length := by simp at hi; omega
      subst this
      have e1 : (l ++ [x])[l.length] = x := by simp
      rw [e1]
      refine ⟨cs, hk, hR hp hkp, fun j u hu => ?_⟩
      have hjk : j < k := by
        have := (List.getElem?_eq_some_iff.1 hu).1
        omega
      rw [hc, if_pos (by omega), Nat.add_sub_cancel_left]
      exact hu
theorem RowG.rd {α : Type} {w : World} {G k n : Nat} {R : (Nat → Prop) → World → α → List Value → Prop} {l : List α} (hR : Kp R) (h : RowG w G k n R l) (hG : G < w.heap.size) (hn : l.length = n) (hm : n ≤ maxLen) : RdK (fun b => G ≤ b) w k (R (fun b => G ≤ b) w) l (.slice (some ⟨G, 0, none⟩) n n) := by
  subst hn
  refine ⟨some ⟨G, 0, none⟩, l.length, rfl, Nat.le_refl _, hm, fun i hi => ?_⟩
  obtain ⟨cs, h1, h2, h3⟩ := h.2 i hi
  refine ⟨G, 0, cs, rfl, Nat.le_refl _, hG, h1, hR h2 (fun b hb _ => ⟨by omega, rfl⟩), fun j u hu => ?_⟩
  rw [Nat.zero_add]
  exact h3 j u hu
end Go.Proofs.YtccmmkhcacglhaaGreatDoor

/- What the program's copy of a set is, and of sets. -/
namespace Go.Proofs.YtccmmkhcacglhaaGreatDoor
open Go.RowKit Go.Lib
set_option linter.unusedSimpArgs false
set_option linter.unusedVariables false
attribute [local go_sem ↓] Go.wp_at_zero Go.wp_at_succ

def ExOk (x : Sx) : Prop := ClX x ∧ cntX x ≤ 2000 ∧ shrt 1000 x.1 x.2 = true
def SetOk (s : List UInt8 × Sx) : Prop := s.1.length ≤ 140737488351232 ∧ ExOk s.2
theorem copX {x : Sx} (h : ExOk x) (w : World) : Calls Tryz.prog 127 #[exX x] w fun e w' => e = .returned (exX x) ∧ Below w.heap.size w w' := copied_any h.1 (by have := h.2.1; unfold cntX at this; omega) h.2.2 w
theorem setQ_at {ok : Nat → Prop} {w : World} {l : List (List UInt8 × Sx)} {a : Option Addr} {n cap : Nat} (h : RdK ok w 2 (rSet ok w) l (.slice a n cap)) (j : Nat) (hj : j < l.length) : ∃ b off, a = some ⟨b, off, none⟩ ∧ b < w.heap.size ∧ ∀ i u, [sV l[j].1, exX l[j].2][i]? = some u → w.cell? ⟨b, off + j * 2 + i, none⟩ = some u := by
  obtain ⟨a1, cap1, he, h1, h2, h3⟩ := h
  simp only [Value.slice.injEq] at he
  obtain ⟨rfl, rfl, rfl⟩ := he
  obtain ⟨b, off, cs, ha, _, hb, hl, hr, hc⟩ := h3 j hj
  have hr : cs = [sV l[j].1, exX l[j].2] := hr
  subst hr
  exact ⟨b, off, ha, hb, hc⟩
theorem cset_res {w4 : World} {R : Nat} {a b : Value} {tmps : Array Value} (hR : Bn w4 R [a, b]) (ht : tmps.getD 2 undef = .pointer (some ⟨R, 0, none⟩)) : (results Tryz.f129 tmps).run Tryz.prog w4 = .ok (.agg #[a, b]) w4 := by
  have ht' : tmps[2]?.getD undef = .pointer (some ⟨R, 0, none⟩) := by simpa using ht
  have c0 := (hR 0 _ rfl).1
  have c1 := (hR 1 _ rfl).1
  simp [results, Tryz.results129, go_sem, ht', c0, c1]
def CsC (s0 : ByteArray) (v : Value) : Prop := ∀ w, Calls Tryz.prog 129 #[.agg #[.string s0, v]] w fun e w' => e = .returned (.agg #[.string s0, v]) ∧ Below w.heap.size w w'
set_option maxRecDepth 100000 in
set_option maxHeartbeats 8000000 in
theorem cs_nil (s0 : ByteArray) (hs : s0.size ≤ 140737488351232) (h2 : ∀ w1, Calls Tryz.prog 127 #[.nilIface] w1 fun e w' => e = .returned (.nilIface) ∧ Below w1.heap.size w1 w') : CsC s0 (.nilIface) := by
  intro w
  have h1 := fun w1 => pClone_any s0 w1 hs
  have hal : Below w.heap.size w ((w.alloc (.cells #[.string s0, .nilIface] 145)).alloc (.cells #[.string ⟨#[]⟩, .nilIface] 145)) := ((Below.refl w.heap.size w).alloc (Nat.le_refl _) _).alloc (by simp) _
  have hX : Bn ((w.alloc (.cells #[.string s0, .nilIface] 145)).alloc (.cells #[.string ⟨#[]⟩, .nilIface] 145)) w.heap.size [.string s0, .nilIface] := (Bn.new w [.string s0, .nilIface] 145 _ rfl).on ((Below.refl _ _).alloc (Nat.le_refl _) _)
  have hR : Bn ((w.alloc (.cells #[.string s0, .nilIface] 145)).alloc (.cells #[.string ⟨#[]⟩, .nilIface] 145)) (w.heap.size + 1) [.string ⟨#[]⟩, .nilIface] := Bn.new (w.alloc (.cells #[.string s0, .nilIface] 145)) [.string ⟨#[]⟩, .nilIface] 145 _ (by simp)
  go_enter Tryz.func129, Tryz.ntmps129
  go_upto_region 1 with fail
  generalize (w.alloc (.cells #[.string s0, .nilIface] 145)).alloc (.cells #[.string ⟨#[]⟩, .nilIface] 145) = wx at *
  have hB : Below wx.heap.size wx wx := Below.refl _ _
  obtain ⟨c0, _⟩ := hX 0 _ rfl
  obtain ⟨c1, _⟩ := hX 1 _ rfl
  have hlt := hX.lt
  obtain ⟨S, hS⟩ : ∃ S, w.heap.size = S := ⟨_, rfl⟩
  rw [hS] at c0 c1 hlt hR ⊢
  go_region_held_law (fun w' => w'.cell? ⟨S, 0, none⟩ = some (.string s0) ∧ w'.cell? ⟨S, 1, none⟩ = some (.nilIface))
    (first | exact ⟨(hB.cell (p := ⟨S, 0, none⟩) hlt).trans c0, (hB.cell (p := ⟨S, 1, none⟩) hlt).trans c1⟩ | exact ⟨cell_far4 (by omega) (cell_far4 (by omega) ((hB.cell (p := ⟨S, 0, none⟩) hlt).trans c0)), cell_far4 (by omega) (cell_far4 (by omega) ((hB.cell (p := ⟨S, 1, none⟩) hlt).trans c1))⟩)
    (first
      | (go_at_call 46; (with_reducible refine (h1 _).mono ?_); rintro e w1 ⟨rfl, b1⟩; (first | have hB := Below.nxd hB b1 | have hB := Below.nx hB b1); have hR1 := hR.on hB; obtain ⟨r0, f0⟩ := hR1 0 _ rfl; obtain ⟨r1, f1⟩ := hR1 1 _ rfl)
      | (go_at_call 127; (with_reducible refine (h2 _).mono ?_); rintro e w1 ⟨rfl, b1⟩; (first | have hB := Below.nxd hB b1 | have hB := Below.nx hB b1); have hR1 := hR.on hB; obtain ⟨r0, f0⟩ := hR1 0 _ rfl; obtain ⟨r1, f1⟩ := hR1 1 _ rfl)
      | fail)
  all_goals (
    have hR2 := (hR1.set (i := 0) (by simp) (.string s0)).set (i := 1) (by simp) (.nilIface)
    have hb2 := ((hal.trans (hB.mono (by have := hal.size; rw [hS] at this; omega))).setCell (p := ⟨S + 1, 0, none⟩) (by show w.heap.size ≤ S + 1; omega) (.string s0)).setCell (p := ⟨S + 1, 1, none⟩) (by show w.heap.size ≤ S + 1; omega) (.nilIface)
    go_wp2
    exact bodyPost_ret (cset_res hR2 rfl) rfl ⟨rfl, hb2⟩)
set_option maxRecDepth 100000 in
set_option maxHeartbeats 8000000 in
theorem cs_ifc (s0 : ByteArray) (u : TypeId) (y : Value) (hs : s0.size ≤ 140737488351232) (h2 : ∀ w1, Calls Tryz.prog 127 #[.iface u y] w1 fun e w' => e = .returned (.iface u y) ∧ Below w1.heap.size w1 w') : CsC s0 (.iface u y) := by
  intro w
  have h1 := fun w1 => pClone_any s0 w1 hs
  have hal : Below w.heap.size w ((w.alloc (.cells #[.string s0, .iface u y] 145)).alloc (.cells #[.string ⟨#[]⟩, .nilIface] 145)) := ((Below.refl w.heap.size w).alloc (Nat.le_refl _) _).alloc (by simp) _
  have hX : Bn ((w.alloc (.cells #[.string s0, .iface u y] 145)).alloc (.cells #[.string ⟨#[]⟩, .nilIface] 145)) w.heap.size [.string s0, .iface u y] := (Bn.new w [.string s0, .iface u y] 145 _ rfl).on ((Below.refl _ _).alloc (Nat.le_refl _) _)
  have hR : Bn ((w.alloc (.cells #[.string s0, .iface u y] 145)).alloc (.cells #[.string ⟨#[]⟩, .nilIface] 145)) (w.heap.size + 1) [.string ⟨#[]⟩, .nilIface] := Bn.new (w.alloc (.cells #[.string s0, .iface u y] 145)) [.string ⟨#[]⟩, .nilIface] 145 _ (by simp)
  go_enter Tryz.func129, Tryz.ntmps129
  go_upto_region 1 with fail
  generalize (w.alloc (.cells #[.string s0, .iface u y] 145)).alloc (.cells #[.string ⟨#[]⟩, .nilIface] 145) = wx at *
  have hB : Below wx.heap.size wx wx := Below.refl _ _
  obtain ⟨c0, _⟩ := hX 0 _ rfl
  obtain ⟨c1, _⟩ := hX 1 _ rfl
  have hlt := hX.lt
  obtain ⟨S, hS⟩ : ∃ S, w.heap.size = S := ⟨_, rfl⟩
  rw [hS] at c0 c1 hlt hR ⊢
  go_region_held_law (fun w' => w'.cell? ⟨S, 0, none⟩ = some (.string s0) ∧ w'.cell? ⟨S, 1, none⟩ = some (.iface u y))
    (first | exact ⟨(hB.cell (p := ⟨S, 0, none⟩) hlt).trans c0, (hB.cell (p := ⟨S, 1, none⟩) hlt).trans c1⟩ | exact ⟨cell_far4 (by omega) (cell_far4 (by omega) ((hB.cell (p := ⟨S, 0, none⟩) hlt).trans c0)), cell_far4 (by omega) (cell_far4 (by omega) ((hB.cell (p := ⟨S, 1, none⟩) hlt).trans c1))⟩)
    (first
      | (go_at_call 46; (with_reducible refine (h1 _).mono ?_); rintro e w1 ⟨rfl, b1⟩; (first | have hB := Below.nxd hB b1 | have hB := Below.nx hB b1); have hR1 := hR.on hB; obtain ⟨r0, f0⟩ := hR1 0 _ rfl; obtain ⟨r1, f1⟩ := hR1 1 _ rfl)
      | (go_at_call 127; (with_reducible refine (h2 _).mono ?_); rintro e w1 ⟨rfl, b1⟩; (first | have hB := Below.nxd hB b1 | have hB := Below.nx hB b1); have hR1 := hR.on hB; obtain ⟨r0, f0⟩ := hR1 0 _ rfl; obtain ⟨r1, f1⟩ := hR1 1 _ rfl)
      | fail)
  all_goals (
    have hR2 := (hR1.set (i := 0) (by simp) (.string s0)).set (i := 1) (by simp) (.iface u y)
    have hb2 := ((hal.trans (hB.mono (by have := hal.size; rw [hS] at this; omega))).setCell (p := ⟨S + 1, 0, none⟩) (by show w.heap.size ≤ S + 1; omega) (.string s0)).setCell (p := ⟨S + 1, 1, none⟩) (by show w.heap.size ≤ S + 1; omega) (.iface u y)
    go_wp2
    exact bodyPost_ret (cset_res hR2 rfl) rfl ⟨rfl, hb2⟩)
theorem copiedSet_any {s : List UInt8 × Sx} (h : SetOk s) (w : World) : Calls Tryz.prog 129 #[.agg #[sV s.1, exX s.2]] w fun e w' => e = .returned (.agg #[sV s.1, exX s.2]) ∧ Below w.heap.size w w' := by
  have hx := copX h.2
  rcases exX_form s.2 with hq | ⟨u, y, hq⟩
  · rw [hq] at hx ⊢
    exact cs_nil _ (by show s.1.toArray.size ≤ _; simpa using h.1) hx w
  · rw [hq] at hx ⊢
    exact cs_ifc _ _ _ (by show s.1.toArray.size ≤ _; simpa using h.1) hx w
end Go.Proofs.YtccmmkhcacglhaaGreatDoor

/- What the program's each is over sets. -/
namespace Go.Proofs.YtccmmkhcacglhaaGreatDoor
open Go.RowKit Go.Lib
set_option linter.unusedSimpArgs false
set_option linter.unusedVariables false
attribute [local go_sem ↓] Go.wp_at_zero Go.wp_at_succ

theorem Tryz.infoESet : (Tryz.prog.info? 145).map (fun i => (i.zero, i.size, i.bytes)) = some (some (.agg #[.string ⟨#[]⟩, .nilIface]), 2, 32) := by kernel_rfl
theorem mkHid {p : Prop} (h : p) : Hid p := h
set_option maxRecDepth 100000 in
set_option maxHeartbeats 8000000 in
theorem eachSet_any {ok : Nat → Prop} {w : World} {l : List (List UInt8 × Sx)} {v : Value} (h : RdK ok w 2 (rSet ok w) l v) (hl : l.length ≤ 100000) (hok : ∀ s ∈ l, SetOk s) :
    Calls Tryz.prog 128 #[v, .func (.func 129) #[] #[]] w fun e w' => ∃ u, e = .returned u ∧ RdK (fun b => w.heap.size ≤ b) w' 2 (rSet (fun b => w.heap.size ≤ b) w') (l) u ∧ Below w.heap.size w w' := by
  obtain ⟨ie, hie, hie0, hie1, hie2⟩ := info_parts Tryz.infoESet
  obtain ⟨a, cap, rfl, hlc, hcm⟩ := h.form
  unfold maxLen at hcm
  have HC := mkHid h
  have HK := mkHid hok
  obtain ⟨n, hn⟩ : ∃ n, l.length = n := ⟨_, rfl⟩
  rw [hn] at hlc hl ⊢
  have HN : Hid (l.length = n) := hn
  clear h hok hn
  have hmk := run_make (P := Tryz.prog) w 140 145 ie _ Tryz.underlying140 hie hie0 .i64 .i64 (n : Int) (n : Int) (by omega) (by omega) (by rw [hie2]; omega) (by omega)
  rw [Int.toNat_natCast, hie1] at hmk
  have hG0 : RowG (w.alloc (.cells (madeCells (.agg #[.string ⟨#[]⟩, .nilIface] : Value).cells (n * 2)) 145)) w.heap.size 2 n rSet ([] : List (List UInt8 × Sx)) := RowG.made w _ 2 n _ _
  have hb0 : Below w.heap.size w (w.alloc (.cells (madeCells (.agg #[.string ⟨#[]⟩, .nilIface] : Value).cells (n * 2)) 145)) := (Below.refl _ _).alloc (Nat.le_refl _) _
  have hs0 : (w.alloc (.cells (madeCells (.agg #[.string ⟨#[]⟩, .nilIface] : Value).cells (n * 2)) 145)).heap.size = w.heap.size + 1 := by simp
  generalize w.alloc (.cells (madeCells (.agg #[.string ⟨#[]⟩, .nilIface] : Value).cells (n * 2)) 145) = w0 at *
  go_enter Tryz.func128, Tryz.ntmps128
  go_wp2
  go_loopw [13] (fun ix wr => ∃ (i : Nat), i ≤ n ∧ ix = .int .i64 (i : Int) ∧ RowG wr w.heap.size 2 n rSet ((l).take i) ∧ Below w.heap.size w wr ∧ w.heap.size < wr.heap.size) (fun ix _ => n - (RowKit.intOf ix).toNat)
  case atStart => exact ⟨0, Nat.zero_le _, rfl, hG0, hb0, by omega⟩
  case round =>
    obtain ⟨i, hi, rfl, hRow, hb, hGs⟩ := hrel
    clear hG0 hb0 hs0 hmk
    by_cases hlt : i < n
    · have hil : i < l.length := by rw [HN.out]; exact hlt
      obtain ⟨b, off, rfl, hbl, hc⟩ := setQ_at HC.out i hil
      have hks := HK.out _ (List.getElem_mem hil)
      have hcall0 := copiedSet_any hks
      obtain ⟨q, hq⟩ : ∃ q, l[i] = q := ⟨_, rfl⟩
      rw [hq] at hc hcall0
      have HQ : Hid (l[i] = q) := hq
      clear hq hks
      obtain ⟨s0, hs0⟩ : ∃ s0, sV q.1 = .string s0 := ⟨_, rfl⟩
      have hform := exX_form q.2
      obtain ⟨tv, htv⟩ : ∃ tv, exX q.2 = tv := ⟨_, rfl⟩
      rw [hs0, htv] at hc hcall0
      rw [htv] at hform
      have HS : Hid (sV q.1 = .string s0) := hs0
      have HTV : Hid (exX q.2 = tv) := htv
      clear hs0 htv
      obtain ⟨acc, hac⟩ : ∃ acc, (l).take i = acc := ⟨_, rfl⟩
      have hla : acc.length = i := by rw [← hac]; simp [HN.out]; omega
      rw [hac] at hRow
      have HAC : Hid ((l).take i = acc) := hac
      clear hac
      have i1 : (i : Int) < (n : Int) := by omega
      have i2 : (0 : Int) ≤ (i : Int) := by omega
      have C0 := (hb.cell (p := ⟨b, off + i * 2 + 0, none⟩) hbl).trans (hc 0 _ rfl)
      have C1 := (hb.cell (p := ⟨b, off + i * 2 + 1, none⟩) hbl).trans (hc 1 _ rfl)
      rw [Nat.add_zero] at C0
      clear hc
      rcases hform with rfl | ⟨tu, ty, rfl⟩
      · have hal := (Below.refl wr.heap.size wr).alloc (Nat.le_refl _) (.cells #[.string s0, .nilIface] 145)
        have hX := Bn.new wr [.string s0, .nilIface] 145 _ rfl
        have hRx := hRow.on kp_set hGs hal
        have hbx := hb.trans (hal.mono hb.size)
        have hGx := Nat.lt_of_lt_of_le hGs hal.size
        have hcall : ∀ w1, Below w.heap.size w w1 → Calls Tryz.prog 129 #[.agg #[.string s0, .nilIface]] w1 fun e w' => e = .returned (.agg #[.string s0, .nilIface]) ∧ Below w1.heap.size w1 w' := fun w1 _ => hcall0 w1
        go_upto_region 5 with fail
        clear C0 C1 hal
        generalize wr.alloc (.cells #[.string s0, .nilIface] 145) = wx at *
        obtain ⟨X, hXX⟩ : ∃ X, wr.heap.size = X := ⟨_, rfl⟩
        rw [hXX] at hX ⊢
        have HXX : Hid (wr.heap.size = X) := hXX
        clear hXX
        obtain ⟨x0, _⟩ := hX 0 _ rfl
        obtain ⟨x1, _⟩ := hX 1 _ rfl
        go_wp2_with (first
          | (go_at_call 129; refine (hcall _ hbx).mono ?_; rintro e w1 ⟨rfl, b1⟩; have hp : rSet (fun b => w.heap.size < b) w1 q [.string s0, .nilIface] := (by show _ = _; rw [HS.out, HTV.out]); have hR1 := hRx.on kp_set hGx b1; obtain ⟨⟨r0, q0⟩, z0⟩ := hR1.1 (i * 2 + 0) (mul_in hlt (by omega)); obtain ⟨⟨r1, q1⟩, z1⟩ := hR1.1 (i * 2 + 1) (mul_in hlt (by omega)); rw [Nat.add_zero] at q0 z0)
          | fail)
        have hP := hR1.put kp_set (x := q) (cs := [.string s0, .nilIface]) (by rw [hla]; exact hlt) rfl hp
        rw [hla] at hP
        have hb2 := putL_below [.string s0, .nilIface] w1 w.heap.size (i * 2) (hbx.trans (b1.mono (Nat.le_of_lt hGx))) (Nat.le_refl _)
        have hs2 : w.heap.size < (putL w1 w.heap.size (i * 2) [.string s0, .nilIface]).heap.size := by rw [putL_size]; exact Nat.lt_of_lt_of_le hGx b1.size
        have hac2 : (l).take (i + 1) = acc ++ [q] := by
          rw [List.take_succ_eq_append_getElem (by simp [HN.out]; omega), HAC.out]
          simp [HQ.out]
        clear x0 r0 q0 z0 x1 r1 q1 z1 hR1 hRx hp
        go_wp2
        go_roundw
        case rel => exact ⟨i + 1, hlt, by go_num, by rw [hac2]; exact hP, hb2, hs2⟩
        case measure => simp [RowKit.intOf]; omega
      · have hal := (Below.refl wr.heap.size wr).alloc (Nat.le_refl _) (.cells #[.string s0, .iface tu ty] 145)
        have hX := Bn.new wr [.string s0, .iface tu ty] 145 _ rfl
        have hRx := hRow.on kp_set hGs hal
        have hbx := hb.trans (hal.mono hb.size)
        have hGx := Nat.lt_of_lt_of_le hGs hal.size
        have hcall : ∀ w1, Below w.heap.size w w1 → Calls Tryz.prog 129 #[.agg #[.string s0, .iface tu ty]] w1 fun e w' => e = .returned (.agg #[.string s0, .iface tu ty]) ∧ Below w1.heap.size w1 w' := fun w1 _ => hcall0 w1
        go_upto_region 5 with fail
        clear C0 C1 hal
        generalize wr.alloc (.cells #[.string s0, .iface tu ty] 145) = wx at *
        obtain ⟨X, hXX⟩ : ∃ X, wr.heap.size = X := ⟨_, rfl⟩
        rw [hXX] at hX ⊢
        have HXX : Hid (wr.heap.size = X) := hXX
        clear hXX
        obtain ⟨x0, _⟩ := hX 0 _ rfl
        obtain ⟨x1, _⟩ := hX 1 _ rfl
        go_wp2_with (first
          | (go_at_call 129; refine (hcall _ hbx).mono ?_; rintro e w1 ⟨rfl, b1⟩; have hp : rSet (fun b => w.heap.size < b) w1 q [.string s0, .iface tu ty] := (by show _ = _; rw [HS.out, HTV.out]); have hR1 := hRx.on kp_set hGx b1; obtain ⟨⟨r0, q0⟩, z0⟩ := hR1.1 (i * 2 + 0) (mul_in hlt (by omega)); obtain ⟨⟨r1, q1⟩, z1⟩ := hR1.1 (i * 2 + 1) (mul_in hlt (by omega)); rw [Nat.add_zero] at q0 z0)
          | fail)
        have hP := hR1.put kp_set (x := q) (cs := [.string s0, .iface tu ty]) (by rw [hla]; exact hlt) rfl hp
        rw [hla] at hP
        have hb2 := putL_below [.string s0, .iface tu ty] w1 w.heap.size (i * 2) (hbx.trans (b1.mono (Nat.le_of_lt hGx))) (Nat.le_refl _)
        have hs2 : w.heap.size < (putL w1 w.heap.size (i * 2) [.string s0, .iface tu ty]).heap.size := by rw [putL_size]; exact Nat.lt_of_lt_of_le hGx b1.size
        have hac2 : (l).take (i + 1) = acc ++ [q] := by
          rw [List.take_succ_eq_append_getElem (by simp [HN.out]; omega), HAC.out]
          simp [HQ.out]
        clear x0 r0 q0 z0 x1 r1 q1 z1 hR1 hRx hp
        go_wp2
        go_roundw
        case rel => exact ⟨i + 1, hlt, by go_num, by rw [hac2]; exact hP, hb2, hs2⟩
        case measure => simp [RowKit.intOf]; omega
    · have i1 : ¬ (i : Int) < (n : Int) := by omega
      have hin : i = n := by omega
      have hfull : (l).take i = l := List.take_of_length_le (by simp [HN.out]; omega)
      rw [hfull] at hRow
      have hrd := hRow.rd kp_set hGs (by simp [HN.out]) (by unfold maxLen; omega)
      go_wp2
      go_ret
      exact ⟨_, rfl, hrd, hb⟩
end Go.Proofs.YtccmmkhcacglhaaGreatDoor

/- What the program's stripVar is, and each over variables. -/
namespace Go.Proofs.YtccmmkhcacglhaaGreatDoor
open Go.RowKit Go.Lib
set_option linter.unusedSimpArgs false
set_option linter.unusedVariables false
attribute [local go_sem ↓] Go.wp_at_zero Go.wp_at_succ

theorem Tryz.infoEVar : (Tryz.prog.info? 82).map (fun i => (i.zero, i.size, i.bytes)) = some (some (.agg #[.string ⟨#[]⟩, .int .i64 0, .int .i64 0, .int .i64 0]), 4, 40) := by kernel_rfl
theorem cvar_res {w4 : World} {R : Nat} {a b c d : Value} {tmps : Array Value} (hR : Bn w4 R [a, b, c, d]) (ht : tmps.getD 2 undef = .pointer (some ⟨R, 0, none⟩)) : (results Tryz.f48 tmps).run Tryz.prog w4 = .ok (.agg #[a, b, c, d]) w4 := by
  have ht' : tmps[2]?.getD undef = .pointer (some ⟨R, 0, none⟩) := by simpa using ht
  have c0 := (hR 0 _ rfl).1
  have c1 := (hR 1 _ rfl).1
  have c2 := (hR 2 _ rfl).1
  have c3 := (hR 3 _ rfl).1
  simp [results, Tryz.results48, go_sem, ht', c0, c1, c2, c3]
set_option maxRecDepth 100000 in
set_option maxHeartbeats 8000000 in
theorem svar_any (w : World) (nm : ByteArray) (x pl pc : Int) (h1 : nm.size ≤ 140737488351232) : Calls Tryz.prog 48 #[.agg #[.string nm, .int .i64 x, .int .i64 pl, .int .i64 pc]] w fun e w' => e = .returned (.agg #[.string nm, .int .i64 x, .int .i64 0, .int .i64 0]) ∧ Below w.heap.size w w' := by
  have g1 := fun w1 => pClone_any nm w1 h1
  have hal : Below w.heap.size w ((w.alloc (.cells #[.string nm, .int .i64 x, .int .i64 pl, .int .i64 pc] 82)).alloc (.cells #[.string ⟨#[]⟩, .int .i64 0, .int .i64 0, .int .i64 0] 82)) := ((Below.refl w.heap.size w).alloc (Nat.le_refl _) _).alloc (by simp) _
  have hX : Bn ((w.alloc (.cells #[.string nm, .int .i64 x, .int .i64 pl, .int .i64 pc] 82)).alloc (.cells #[.string ⟨#[]⟩, .int .i64 0, .int .i64 0, .int .i64 0] 82)) w.heap.size [.string nm, .int .i64 x, .int .i64 pl, .int .i64 pc] := (Bn.new w [.string nm, .int .i64 x, .int .i64 pl, .int .i64 pc] 82 _ rfl).on ((Below.refl _ _).alloc (Nat.le_refl _) _)
  have hR : Bn ((w.alloc (.cells #[.string nm, .int .i64 x, .int .i64 pl, .int .i64 pc] 82)).alloc (.cells #[.string ⟨#[]⟩, .int .i64 0, .int .i64 0, .int .i64 0] 82)) (w.heap.size + 1) [.string ⟨#[]⟩, .int .i64 0, .int .i64 0, .int .i64 0] := Bn.new (w.alloc (.cells #[.string nm, .int .i64 x, .int .i64 pl, .int .i64 pc] 82)) [.string ⟨#[]⟩, .int .i64 0, .int .i64 0, .int .i64 0] 82 _ (by simp)
  go_enter Tryz.func48, Tryz.ntmps48
  go_upto_region 1 with fail
  generalize ((w.alloc (.cells #[.string nm, .int .i64 x, .int .i64 pl, .int .i64 pc] 82)).alloc (.cells #[.string ⟨#[]⟩, .int .i64 0, .int .i64 0, .int .i64 0] 82)) = wx at *
  have hB : Below wx.heap.size wx wx := Below.refl _ _
  obtain ⟨c0, _⟩ := hX 0 _ rfl
  obtain ⟨c1, _⟩ := hX 1 _ rfl
  have hlt := hX.lt
  obtain ⟨S, hS⟩ : ∃ S, w.heap.size = S := ⟨_, rfl⟩
  rw [hS] at c0 c1 hlt hR ⊢
  have HS : Hid (w.heap.size = S) := hS
  clear hX hS
  have n1 : S ≠ S + 1 := by omega
  have y0 := c0
  have y1 := c1
  go_region_held_law (fun w' => w'.cell? ⟨S, 0, none⟩ = some (.string nm) ∧ w'.cell? ⟨S, 1, none⟩ = some (.int .i64 x))
    ((refine ⟨?_, ?_⟩ <;> (repeat (first | (with_reducible exact y0) | (with_reducible exact y1) | (with_reducible refine cell_dr ?_) | (with_reducible refine cell_far4 (ne_pt n1) ?_))) <;> done))
    (first
      | (go_at_call 46; (with_reducible refine (g1 _).mono ?_); rintro e w1 ⟨rfl, b1⟩; (first | have hB := Below.nxd hB b1 | have hB := Below.nx hB b1); have hR1 := hR.on hB; obtain ⟨r0, f0⟩ := hR1 0 _ rfl; obtain ⟨r1, f1⟩ := hR1 1 _ rfl; obtain ⟨r2, f2⟩ := hR1 2 _ rfl; obtain ⟨r3, f3⟩ := hR1 3 _ rfl; have y0 := (hB.cell (p := ⟨S, 0, none⟩) hlt).trans c0; have y1 := (hB.cell (p := ⟨S, 1, none⟩) hlt).trans c1)
      | fail)
  all_goals (
    have hR2 := (((hR1.set (i := 0) (by simp) (.string nm)).set (i := 1) (by simp) (.int .i64 x)).set (i := 2) (by simp) (.int .i64 0)).set (i := 3) (by simp) (.int .i64 0)
    have hb2 := putL_below [.string nm, .int .i64 x, .int .i64 0, .int .i64 0] w1 (S + 1) 0 (hal.trans (hB.mono (by have := hal.size; omega))) (by have := HS.out; omega)
    go_wp2
    exact bodyPost_ret (cvar_res hR2 rfl) rfl ⟨rfl, hb2⟩)
def spV (v : List UInt8 × Int × Pl) : List UInt8 × Int × Pl := (v.1, v.2.1, (0, 0))
theorem varQ_at {ok : Nat → Prop} {w : World} {l : List (List UInt8 × Int × Pl)} {a : Option Addr} {n cap : Nat} (h : RdK ok w 4 (rVar ok w) l (.slice a n cap)) (j : Nat) (hj : j < l.length) : ∃ b off, a = some ⟨b, off, none⟩ ∧ b < w.heap.size ∧ ∀ i u, (varV l[j])[i]? = some u → w.cell? ⟨b, off + j * 4 + i, none⟩ = some u := by
  obtain ⟨a1, cap1, he, h1, h2, h3⟩ := h
  simp only [Value.slice.injEq] at he
  obtain ⟨rfl, rfl, rfl⟩ := he
  obtain ⟨b, off, cs, ha, _, hb, hl, hr, hc⟩ := h3 j hj
  have hr : cs = varV l[j] := hr
  subst hr
  exact ⟨b, off, ha, hb, hc⟩
set_option maxRecDepth 100000 in
set_option maxHeartbeats 8000000 in
theorem eachVar_any {ok : Nat → Prop} {w : World} {l : List (List UInt8 × Int × Pl)} {v : Value} (h : RdK ok w 4 (rVar ok w) l v) (hl : l.length ≤ 100000) (hok : ∀ s ∈ l, s.1.length ≤ 140737488351232) :
    Calls Tryz.prog 47 #[v, .func (.func 48) #[] #[]] w fun e w' => ∃ u, e = .returned u ∧ RdK (fun b => w.heap.size ≤ b) w' 4 (rVar (fun b => w.heap.size ≤ b) w') (l.map spV) u ∧ Below w.heap.size w w' := by
  obtain ⟨ie, hie, hie0, hie1, hie2⟩ := info_parts Tryz.infoEVar
  obtain ⟨a, cap, rfl, hlc, hcm⟩ := h.form
  unfold maxLen at hcm
  have HC := mkHid h
  have HK := mkHid hok
  obtain ⟨n, hn⟩ : ∃ n, l.length = n := ⟨_, rfl⟩
  rw [hn] at hlc hl ⊢
  have HN : Hid (l.length = n) := hn
  clear h hok hn
  have hmk := run_make (P := Tryz.prog) w 25 82 ie _ Tryz.underlying25 hie hie0 .i64 .i64 (n : Int) (n : Int) (by omega) (by omega) (by rw [hie2]; omega) (by omega)
  rw [Int.toNat_natCast, hie1] at hmk
  have hG0 : RowG (w.alloc (.cells (madeCells (.agg #[.string ⟨#[]⟩, .int .i64 0, .int .i64 0, .int .i64 0] : Value).cells (n * 4)) 82)) w.heap.size 4 n rVar ([] : List (List UInt8 × Int × Pl)) := RowG.made w _ 4 n _ _
  have hb0 : Below w.heap.size w (w.alloc (.cells (madeCells (.agg #[.string ⟨#[]⟩, .int .i64 0, .int .i64 0, .int .i64 0] : Value).cells (n * 4)) 82)) := (Below.refl _ _).alloc (Nat.le_refl _) _
  have hs0 : (w.alloc (.cells (madeCells (.agg #[.string ⟨#[]⟩, .int .i64 0, .int .i64 0, .int .i64 0] : Value).cells (n * 4)) 82)).heap.size = w.heap.size + 1 := by simp
  generalize w.alloc (.cells (madeCells (.agg #[.string ⟨#[]⟩, .int .i64 0, .int .i64 0, .int .i64 0] : Value).cells (n * 4)) 82) = w0 at *
  go_enter Tryz.func47, Tryz.ntmps47
  go_wp2
  go_loopw [13] (fun ix wr => ∃ (i : Nat), i ≤ n ∧ ix = .int .i64 (i : Int) ∧ RowG wr w.heap.size 4 n rVar ((l.map spV).take i) ∧ Below w.heap.size w wr ∧ w.heap.size < wr.heap.size) (fun ix _ => n - (RowKit.intOf ix).toNat)
  case atStart => exact ⟨0, Nat.zero_le _, rfl, hG0, hb0, by omega⟩
  case round =>
    obtain ⟨i, hi, rfl, hRow, hb, hGs⟩ := hrel
    clear hG0 hb0 hs0 hmk
    by_cases hlt : i < n
    · have hil : i < l.length := by rw [HN.out]; exact hlt
      obtain ⟨b, off, rfl, hbl, hc⟩ := varQ_at HC.out i hil
      have hko := HK.out _ (List.getElem_mem hil)
      obtain ⟨q, hq⟩ : ∃ q, l[i] = q := ⟨_, rfl⟩
      rw [hq] at hc hko
      obtain ⟨nm, hnm⟩ : ∃ nm : ByteArray, ⟨q.1.toArray⟩ = nm := ⟨_, rfl⟩
      have hz1 : nm.size ≤ 140737488351232 := by rw [← hnm]; show q.1.toArray.size ≤ _; simpa using hko
      obtain ⟨x, hx⟩ : ∃ x, q.2.1 = x := ⟨_, rfl⟩
      obtain ⟨pl, hpl⟩ : ∃ x, q.2.2.1 = x := ⟨_, rfl⟩
      obtain ⟨pc, hpc⟩ : ∃ x, q.2.2.2 = x := ⟨_, rfl⟩
      have hv : varV q = [.string nm, .int .i64 x, .int .i64 pl, .int .i64 pc] := by unfold varV sV; rw [hnm, hx, hpl, hpc]
      have hv2 : varV (spV q) = [.string nm, .int .i64 x, .int .i64 0, .int .i64 0] := by
        show [sV q.1, .int .i64 q.2.1, .int .i64 0, .int .i64 0] = _
        unfold sV; rw [hnm, hx]
      rw [hv] at hc
      have HQ : Hid (l[i] = q) := hq
      have HV2 : Hid (varV (spV q) = [.string nm, .int .i64 x, .int .i64 0, .int .i64 0]) := hv2
      clear hq hko hnm hx hpl hpc hv hv2
      obtain ⟨acc, hac⟩ : ∃ acc, (l.map spV).take i = acc := ⟨_, rfl⟩
      have hla : acc.length = i := by rw [← hac]; simp [HN.out]; omega
      rw [hac] at hRow
      have HAC : Hid ((l.map spV).take i = acc) := hac
      clear hac
      have i1 : (i : Int) < (n : Int) := by omega
      have i2 : (0 : Int) ≤ (i : Int) := by omega
      have C0 := (hb.cell (p := ⟨b, off + i * 4 + 0, none⟩) hbl).trans (hc 0 _ rfl)
      have C1 := (hb.cell (p := ⟨b, off + i * 4 + 1, none⟩) hbl).trans (hc 1 _ rfl)
      have C2 := (hb.cell (p := ⟨b, off + i * 4 + 2, none⟩) hbl).trans (hc 2 _ rfl)
      have C3 := (hb.cell (p := ⟨b, off + i * 4 + 3, none⟩) hbl).trans (hc 3 _ rfl)
      rw [Nat.add_zero] at C0
      clear hc
      have hal := (Below.refl wr.heap.size wr).alloc (Nat.le_refl _) (.cells #[.string nm, .int .i64 x, .int .i64 pl, .int .i64 pc] 82)
      have hX := Bn.new wr [.string nm, .int .i64 x, .int .i64 pl, .int .i64 pc] 82 _ rfl
      have hRx := hRow.on kp_var hGs hal
      have hbx := hb.trans (hal.mono hb.size)
      have hGx := Nat.lt_of_lt_of_le hGs hal.size
      have hcall : ∀ w1, Below w.heap.size w w1 → Calls Tryz.prog 48 #[.agg #[.string nm, .int .i64 x, .int .i64 pl, .int .i64 pc]] w1 fun e w' => e = .returned (.agg #[.string nm, .int .i64 x, .int .i64 0, .int .i64 0]) ∧ Below w1.heap.size w1 w' := fun w1 _ => svar_any w1 nm x pl pc hz1
      go_upto_region 5 with fail
      clear C0 C1 C2 C3 hal
      generalize wr.alloc (.cells #[.string nm, .int .i64 x, .int .i64 pl, .int .i64 pc] 82) = wx at *
      obtain ⟨X, hXX⟩ : ∃ X, wr.heap.size = X := ⟨_, rfl⟩
      rw [hXX] at hX ⊢
      have HXX : Hid (wr.heap.size = X) := hXX
      clear hXX
      obtain ⟨x0, _⟩ := hX 0 _ rfl
      obtain ⟨x1, _⟩ := hX 1 _ rfl
      obtain ⟨x2, _⟩ := hX 2 _ rfl
      obtain ⟨x3, _⟩ := hX 3 _ rfl
      go_wp2_with (first
        | (go_at_call 48; refine (hcall _ hbx).mono ?_; rintro e w1 ⟨rfl, b1⟩; have hp : rVar (fun b => w.heap.size < b) w1 (spV q) [.string nm, .int .i64 x, .int .i64 0, .int .i64 0] := (HV2.out.symm); have hR1 := hRx.on kp_var hGx b1; obtain ⟨⟨r0, q0⟩, z0⟩ := hR1.1 (i * 4 + 0) (mul_in hlt (by omega)); obtain ⟨⟨r1, q1⟩, z1⟩ := hR1.1 (i * 4 + 1) (mul_in hlt (by omega)); obtain ⟨⟨r2, q2⟩, z2⟩ := hR1.1 (i * 4 + 2) (mul_in hlt (by omega)); obtain ⟨⟨r3, q3⟩, z3⟩ := hR1.1 (i * 4 + 3) (mul_in hlt (by omega)); rw [Nat.add_zero] at q0 z0)
        | fail)
      have hP := hR1.put kp_var (x := spV q) (cs := [.string nm, .int .i64 x, .int .i64 0, .int .i64 0]) (by rw [hla]; exact hlt) rfl hp
      rw [hla] at hP
      have hb2 := putL_below [.string nm, .int .i64 x, .int .i64 0, .int .i64 0] w1 w.heap.size (i * 4) (hbx.trans (b1.mono (Nat.le_of_lt hGx))) (Nat.le_refl _)
      have hs2 : w.heap.size < (putL w1 w.heap.size (i * 4) [.string nm, .int .i64 x, .int .i64 0, .int .i64 0]).heap.size := by rw [putL_size]; exact Nat.lt_of_lt_of_le hGx b1.size
      have hac2 : (l.map spV).take (i + 1) = acc ++ [spV q] := by
        rw [List.take_succ_eq_append_getElem (by simp [HN.out]; omega), HAC.out]
        simp [HQ.out]
      clear x0 r0 q0 z0 x1 r1 q1 z1 x2 r2 q2 z2 x3 r3 q3 z3 hR1 hRx hp
      go_wp2
      go_roundw
      case rel => exact ⟨i + 1, hlt, by go_num, by rw [hac2]; exact hP, hb2, hs2⟩
      case measure => simp [RowKit.intOf]; omega
    · have i1 : ¬ (i : Int) < (n : Int) := by omega
      have hin : i = n := by omega
      have hfull : (l.map spV).take i = l.map spV := List.take_of_length_le (by simp [HN.out]; omega)
      rw [hfull] at hRow
      have hrd := hRow.rd kp_var hGs (by simp [HN.out]) (by unfold maxLen; omega)
      go_wp2
      go_ret
      exact ⟨_, rfl, hrd, hb⟩
end Go.Proofs.YtccmmkhcacglhaaGreatDoor

/- What strconv.ErrSyntax holds, by the row's list. -/
namespace Go.Proofs.YtccmmkhcacglhaaGreatDoor
open Go.RowKit Go.Lib
set_option linter.unusedVariables false
theorem iface_of {P : Program} {w : World} {t : TypeId} {fuel : Nat} {cs : List Value} {name : String} {d : DataW Unit} {p : List MemPlace} (ht : (P.underlying t).map (fun u => match u with | .interface _ => true | _ => false) = some true) (h : DataW.trod (fun _ => ()) P w 0 (fun _ => true) false fuel t cs = some (.iface name d, p)) : ∃ u v, cs = [.iface u v] := by
  cases fuel with
  | zero => simp [DataW.trod] at h
  | succ fuel =>
    unfold DataW.trod at h
    cases hu : P.underlying t with
    | none => rw [hu] at ht; simp at ht
    | some u =>
      rw [hu] at ht h
      cases u <;> simp at ht
      split at h <;> simp_all
theorem esy_of {w : World} {L : List (String × DataW Unit)} (h : laidMetH Tryz.prog L w) (hp : (L.all fun x => x.2.handleName?.isNone) = true) (m : ("strconv.ErrSyntax", Rows.laid_strconv_ErrSyntax) ∈ L) : Esy w := by
  rw [MakeChecks.laidMetH_plain _ _ _ hp] at h
  obtain ⟨g, t, cs, fuel, p, hg, ht, hvar, hd⟩ := Lib.laidMet.reads h m
  have hg2 : Tryz.prog.globalNamed "strconv.ErrSyntax" = some (renA.g 15) := by kernel_rfl
  rw [hg] at hg2
  obtain rfl := Option.some.inj hg2
  have ht2 : ((Tryz.prog.globals[renA.g 15]?).map (·.type)).bind (fun t => (Tryz.prog.underlying t).map (fun u => match u with | .interface _ => true | _ => false)) = some true := by kernel_rfl
  rw [ht, Option.bind_some] at ht2
  obtain ⟨u, v, hcs⟩ := iface_of ht2 hd
  have : cs = #[.iface u v] := by cases cs; simp at hcs; rw [hcs]
  subst this
  unfold World.var? at hvar
  rw [hg, Option.bind_some] at hvar
  refine ⟨.iface u v, ?_, .inr ⟨u, v, rfl⟩⟩
  cases hh : w.heap[renA.g 15]? with
  | none => rw [hh] at hvar; simp at hvar
  | some o =>
    rw [hh] at hvar
    cases o with
    | cells cs e f =>
      simp only [Option.some.injEq] at hvar
      subst hvar
      exact (cell_of_row w _ 0 _ _ _ hh).trans rfl
    | _ => simp at hvar
end Go.Proofs.YtccmmkhcacglhaaGreatDoor

/- An argument that is a slice of bytes, opened: the bytes that it reads as, each from 0 to 255, and their number within the form's reach. -/
namespace Go.Proofs.YtccmmkhcacglhaaGreatDoor
open Go.ChangeShapes Go.WideShapes Go.ChangeAt Go.RowKit

theorem sized_text {H : Type} {P : Program} {ts : List TypeId} {ds : List (DataW H)} (h : (DataW.weightsEach P ts ds).all (· ≤ reachBytes) = true) {j : Nat} {t : TypeId} {s : ByteArray}
    (ht : ts[j]? = some t) (hd : ds[j]? = some (.lit (.string s.data.toList))) : s.size ≤ 140737488351232 := by
  have := sized_string h ht hd
  simp only [reachBytes, Array.length_toList] at this
  exact this

end Go.Proofs.YtccmmkhcacglhaaGreatDoor
