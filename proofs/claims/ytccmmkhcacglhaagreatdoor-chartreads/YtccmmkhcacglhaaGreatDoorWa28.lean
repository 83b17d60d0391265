import Derived.Test.YtccmmkhcacglhaaGreatDoorWa11
import Derived.Test.YtccmmkhcacglhaaGreatDoorWa03
import Derived.Test.YtccmmkhcacglhaaGreatDoorWa01
import Derived.Test.YtccmmkhcacglhaaGreatDoorWa15
import Derived.Deep.RegionLaw
import Derived.Deep.LoopGhost
import Derived.Deep.DeepCutAuto

/- What an expression is by itself, its parts in new memory. -/
namespace Go.Proofs.YtccmmkhcacglhaaGreatDoor
open Go.RowKit Go.Lib
set_option linter.unusedSimpArgs false
set_option linter.unusedVariables false
attribute [local go_sem ↓] Go.wp_at_zero Go.wp_at_succ
attribute [local go_sem] as_lit_lit as_ref_lit as_ref_ref as_not_lit as_not_ref as_not_not as_neg_lit as_neg_ref as_neg_not as_neg_neg as_bin_lit as_bin_ref as_bin_not as_bin_neg as_bin_bin

/-- The slice v holds the values l, in a block from lo on. -/
def KidsN (lo : Nat) (w : World) (v : Value) (l : List Value) : Prop := Kids w v l ∧ ∀ g, v.ownBlock = some g → lo ≤ g
theorem kidsN0 (lo : Nat) (w : World) : KidsN lo w (.slice none 0 0) [] := ⟨kids0 w, fun g hg => by cases hg⟩
theorem kidsN1 {lo : Nat} {w : World} {g : Nat} {x : Value} (hl : lo ≤ g) (h : w.cell? ⟨g, 0, none⟩ = some x) : KidsN lo w (.slice (some ⟨g, 0, none⟩) 1 1) [x] := ⟨kids1 h, fun g' hg => by simp [Value.ownBlock] at hg; omega⟩
theorem kidsN2 {lo : Nat} {w : World} {g : Nat} {x y : Value} (hl : lo ≤ g) (h : w.cell? ⟨g, 0, none⟩ = some x) (h' : w.cell? ⟨g, 1, none⟩ = some y) : KidsN lo w (.slice (some ⟨g, 0, none⟩) 2 2) [x, y] := ⟨kids2 h h', fun g' hg => by simp [Value.ownBlock] at hg; omega⟩
theorem topN_nil (w : World) : Calls Tryz.prog 152 #[.nilIface] w fun e w' => ∃ sl, e = .returned (topV 0 0 ⟨#[]⟩ sl) ∧ KidsN w.heap.size w' sl [] ∧ Below w.heap.size w w' := by
  go_enter Tryz.func152, Tryz.ntmps152
  go_wp2
  refine bodyPost_ret (v := topV 0 0 ⟨#[]⟩ (.slice none 0 0)) (by simp [results, Tryz.results152, go_sem]) rfl ⟨_, rfl, kidsN0 _ _, ?_⟩
  · (repeat (refine Below.alloc ?_ (by simp <;> omega) _)); exact Below.refl _ _

theorem topN_lit (n : Int) (w : World) : Calls Tryz.prog 152 #[.iface 178 (.agg #[.int .i64 n])] w fun e w' => ∃ sl, e = .returned (topV 1 n ⟨#[]⟩ sl) ∧ KidsN w.heap.size w' sl [] ∧ Below w.heap.size w w' := by
  go_enter Tryz.func152, Tryz.ntmps152
  go_wp2
  refine bodyPost_ret (v := topV 1 n ⟨#[]⟩ (.slice none 0 0)) (by simp [results, Tryz.results152, go_sem]) rfl ⟨_, rfl, kidsN0 _ _, ?_⟩
  · (repeat (refine Below.alloc ?_ (by simp <;> omega) _)); exact Below.refl _ _

theorem topN_ref (s : ByteArray) (w : World) : Calls Tryz.prog 152 #[.iface 180 (.agg #[.string s])] w fun e w' => ∃ sl, e = .returned (topV 2 0 s sl) ∧ KidsN w.heap.size w' sl [] ∧ Below w.heap.size w w' := by
  go_enter Tryz.func152, Tryz.ntmps152
  go_wp2
  refine bodyPost_ret (v := topV 2 0 s (.slice none 0 0)) (by simp [results, Tryz.results152, go_sem]) rfl ⟨_, rfl, kidsN0 _ _, ?_⟩
  · (repeat (refine Below.alloc ?_ (by simp <;> omega) _)); exact Below.refl _ _

theorem topN_not (x : Value) (hx : Ifc x) (w : World) : Calls Tryz.prog 152 #[.iface 182 (.agg #[x])] w fun e w' => ∃ sl, e = .returned (topV 3 0 ⟨#[]⟩ sl) ∧ KidsN w.heap.size w' sl [x] ∧ Below w.heap.size w w' := by
  rcases hx with rfl | ⟨u, y, rfl⟩
  · go_enter Tryz.func152, Tryz.ntmps152
    go_wp2
    refine bodyPost_ret (v := topV 3 0 ⟨#[]⟩ (.slice (some ⟨w.heap.size + 4, 0, none⟩) 1 1)) (by simp [results, Tryz.results152, go_sem]) rfl ⟨_, rfl, kidsN1 ?_ ?_, ?_⟩
    · simp
    · exact cell1_new _ _ _ _ (by simp)
    · (repeat (refine Below.alloc ?_ (by simp <;> omega) _)); exact Below.refl _ _
  · go_enter Tryz.func152, Tryz.ntmps152
    go_wp2
    refine bodyPost_ret (v := topV 3 0 ⟨#[]⟩ (.slice (some ⟨w.heap.size + 4, 0, none⟩) 1 1)) (by simp [results, Tryz.results152, go_sem]) rfl ⟨_, rfl, kidsN1 ?_ ?_, ?_⟩
    · simp
    · exact cell1_new _ _ _ _ (by simp)
    · (repeat (refine Below.alloc ?_ (by simp <;> omega) _)); exact Below.refl _ _

theorem topN_neg (x : Value) (hx : Ifc x) (w : World) : Calls Tryz.prog 152 #[.iface 183 (.agg #[x])] w fun e w' => ∃ sl, e = .returned (topV 4 0 ⟨#[]⟩ sl) ∧ KidsN w.heap.size w' sl [x] ∧ Below w.heap.size w w' := by
  rcases hx with rfl | ⟨u, y, rfl⟩
  · go_enter Tryz.func152, Tryz.ntmps152
    go_wp2
    refine bodyPost_ret (v := topV 4 0 ⟨#[]⟩ (.slice (some ⟨w.heap.size + 5, 0, none⟩) 1 1)) (by simp [results, Tryz.results152, go_sem]) rfl ⟨_, rfl, kidsN1 ?_ ?_, ?_⟩
    · simp
    · exact cell1_new _ _ _ _ (by simp)
    · (repeat (refine Below.alloc ?_ (by simp <;> omega) _)); exact Below.refl _ _
  · go_enter Tryz.func152, Tryz.ntmps152
    go_wp2
    refine bodyPost_ret (v := topV 4 0 ⟨#[]⟩ (.slice (some ⟨w.heap.size + 5, 0, none⟩) 1 1)) (by simp [results, Tryz.results152, go_sem]) rfl ⟨_, rfl, kidsN1 ?_ ?_, ?_⟩
    · simp
    · exact cell1_new _ _ _ _ (by simp)
    · (repeat (refine Below.alloc ?_ (by simp <;> omega) _)); exact Below.refl _ _

theorem topN_bin (s : ByteArray) (x x' : Value) (hx : Ifc x) (hx' : Ifc x') (w : World) : Calls Tryz.prog 152 #[.iface 185 (.agg #[.string s, x, x'])] w fun e w' => ∃ sl, e = .returned (topV 5 0 s sl) ∧ KidsN w.heap.size w' sl [x, x'] ∧ Below w.heap.size w w' := by
  rcases hx with rfl | ⟨u, y, rfl⟩ <;> rcases hx' with rfl | ⟨u', y', rfl⟩
  · go_enter Tryz.func152, Tryz.ntmps152
    go_wp2
    refine bodyPost_ret (v := topV 5 0 s (.slice (some ⟨w.heap.size + 6, 0, none⟩) 2 2)) (by simp [results, Tryz.results152, go_sem]) rfl ⟨_, rfl, kidsN2 ?_ ?_ ?_, ?_⟩
    · simp
    · exact (cell2_new _ _ _ _ _ (by simp)).1
    · exact (cell2_new _ _ _ _ _ (by simp)).2
    · (repeat (refine Below.alloc ?_ (by simp <;> omega) _)); exact Below.refl _ _
  · go_enter Tryz.func152, Tryz.ntmps152
    go_wp2
    refine bodyPost_ret (v := topV 5 0 s (.slice (some ⟨w.heap.size + 6, 0, none⟩) 2 2)) (by simp [results, Tryz.results152, go_sem]) rfl ⟨_, rfl, kidsN2 ?_ ?_ ?_, ?_⟩
    · simp
    · exact (cell2_new _ _ _ _ _ (by simp)).1
    · exact (cell2_new _ _ _ _ _ (by simp)).2
    · (repeat (refine Below.alloc ?_ (by simp <;> omega) _)); exact Below.refl _ _
  · go_enter Tryz.func152, Tryz.ntmps152
    go_wp2
    refine bodyPost_ret (v := topV 5 0 s (.slice (some ⟨w.heap.size + 6, 0, none⟩) 2 2)) (by simp [results, Tryz.results152, go_sem]) rfl ⟨_, rfl, kidsN2 ?_ ?_ ?_, ?_⟩
    · simp
    · exact (cell2_new _ _ _ _ _ (by simp)).1
    · exact (cell2_new _ _ _ _ _ (by simp)).2
    · (repeat (refine Below.alloc ?_ (by simp <;> omega) _)); exact Below.refl _ _
  · go_enter Tryz.func152, Tryz.ntmps152
    go_wp2
    refine bodyPost_ret (v := topV 5 0 s (.slice (some ⟨w.heap.size + 6, 0, none⟩) 2 2)) (by simp [results, Tryz.results152, go_sem]) rfl ⟨_, rfl, kidsN2 ?_ ?_ ?_, ?_⟩
    · simp
    · exact (cell2_new _ _ _ _ _ (by simp)).1
    · exact (cell2_new _ _ _ _ _ (by simp)).2
    · (repeat (refine Below.alloc ?_ (by simp <;> omega) _)); exact Below.refl _ _


theorem topN_any {d : Nat} {t : T (d + 1)} (hc : Cl (d + 1) t) : ∃ k n s ps, t = mkT k n s ps ∧ ∀ w, Calls Tryz.prog 152 #[exV (d + 1) t] w fun e w' => ∃ sl, e = .returned (.agg #[.int .i64 k, .int .i64 n, .string s, sl]) ∧ KidsN w.heap.size w' sl (ps.map (exV d)) ∧ Below w.heap.size w w' := by
  rcases hc.cases with ⟨n, rfl⟩ | ⟨s, rfl⟩ | ⟨k, p, hk, rfl, hp⟩ | ⟨s, p, q, rfl, hp, hq⟩ | rfl
  · exact ⟨1, n, _, [], rfl, fun w => topN_lit n w⟩
  · exact ⟨2, 0, s, [], rfl, fun w => topN_ref s w⟩
  · rcases hk with rfl | rfl
    · exact ⟨3, 0, _, [p], rfl, fun w => topN_not (exV d p) (ifc_ex p) w⟩
    · exact ⟨4, 0, _, [p], rfl, fun w => topN_neg (exV d p) (ifc_ex p) w⟩
  · exact ⟨5, 0, s, [p, q], rfl, fun w => topN_bin s (exV d p) (exV d q) (ifc_ex p) (ifc_ex q) w⟩
  · exact ⟨0, 0, _, [], rfl, fun w => topN_nil w⟩
end Go.Proofs.YtccmmkhcacglhaaGreatDoor

/- What the program's Same does: what its rounds lean on. -/
namespace Go.Proofs.YtccmmkhcacglhaaGreatDoor
open Go.RowKit Go.Lib
set_option linter.unusedSimpArgs false
set_option linter.unusedVariables false
attribute [local go_sem ↓] Go.wp_at_zero Go.wp_at_succ

def alk (k n : Int) (s : ByteArray) (k' n' : Int) (s' : ByteArray) : Bool := decide (k = k') && decide (n = n') && decide (s = s')
set_option maxRecDepth 100000 in
set_option maxHeartbeats 4000000 in
theorem alike_any (k n : Int) (s : ByteArray) (a : Option Addr) (m : Nat) (k' n' : Int) (s' : ByteArray) (a' : Option Addr) (m' : Nat) (hk : k ≠ 6) (w : World) :
    Calls Tryz.prog 153 #[.agg #[.int .i64 k, .int .i64 n, .string s, .slice a m m], .agg #[.int .i64 k', .int .i64 n', .string s', .slice a' m' m']] w fun e w' => e = .returned (.bool (alk k n s k' n' s')) ∧ Below w.heap.size w w' := by
  have e6 : (k == 6) = false := beq_eq_false_iff_ne.2 hk
  have n6 : (k != 6) = true := by simp [hk]
  have hb : Below w.heap.size w ((w.alloc (.cells #[.int .i64 k, .int .i64 n, .string s, .slice a m m] 214)).alloc (.cells #[.int .i64 k', .int .i64 n', .string s', .slice a' m' m'] 214)) := ((Below.refl _ _).alloc (Nat.le_refl _) _).alloc (by simp) _
  unfold alk
  by_cases h1 : k = k'
  · subst h1
    rw [decide_eq_true rfl, Bool.true_and]
    by_cases h2 : n = n'
    · subst h2
      rw [decide_eq_true rfl, Bool.true_and]
      by_cases h3 : s = s'
      · subst h3
        rw [decide_eq_true rfl]
        go_enter Tryz.func153, Tryz.ntmps153
        go_wp2
        go_ret
        exact ⟨rfl, hb⟩
      · have e3 := bytes_ne h3
        rw [decide_eq_false h3]
        clear h3
        go_enter Tryz.func153, Tryz.ntmps153
        go_wp2
        go_ret
        exact ⟨rfl, hb⟩
    · have e2 : (n == n') = false := beq_eq_false_iff_ne.2 h2
      rw [decide_eq_false h2, Bool.false_and]
      go_enter Tryz.func153, Tryz.ntmps153
      go_wp2
      go_ret
      exact ⟨rfl, hb⟩
  · have e1 : (k == k') = false := beq_eq_false_iff_ne.2 h1
    rw [decide_eq_false h1, Bool.false_and, Bool.false_and]
    go_enter Tryz.func153, Tryz.ntmps153
    go_wp2
    go_ret
    exact ⟨rfl, hb⟩

theorem B4.keep' {w w' : World} {X : Nat} {a b c e : Value} (hb : Below w.heap.size w w') (h : B4 w X a b c e) : B4 w' X a b c e := h.keep hb
theorem cell_al {w : World} {p : Addr} {v : Value} {O : Obj} (h : w.cell? p = some v) : (w.alloc O).cell? p = some v := (((Below.refl w.heap.size w).alloc (Nat.le_refl _) O).cell (World.block_lt_of_cell? w _ h)).trans h
theorem cell_pt {w : World} {X Y j : Nat} {v a b c e : Value} (h : w.cell? ⟨Y, j, none⟩ = some v) (hne : Y ≠ X) : (put4 w X a b c e).cell? ⟨Y, j, none⟩ = some v := cell_far4 (by omega) (cell_far4 (by omega) (cell_far4 (by omega) (cell_far4 (by omega) h)))
theorem sz1 (w : World) (o : Obj) : w.heap.size + 1 = (w.alloc o).heap.size := by simp
theorem z4_al {w : World} {X : Nat} (h : B4 w X (.int .i64 0) (.int .i64 0) (.string ⟨#[]⟩) (.slice none 0 0)) (O : Obj) : (w.alloc O).cell? ⟨X, 0, none⟩ = some (.int .i64 0) ∧ (w.alloc O).cell? ⟨X, 1, none⟩ = some (.int .i64 0) ∧ (w.alloc O).cell? ⟨X, 2, none⟩ = some (.string ⟨#[]⟩) ∧ (w.alloc O).cell? ⟨X, 3, none⟩ = some (.slice none 0 0) ∧
    (w.alloc O).frozen? ⟨X, 0, none⟩ = false ∧ (w.alloc O).frozen? ⟨X, 1, none⟩ = false ∧ (w.alloc O).frozen? ⟨X, 2, none⟩ = false ∧ (w.alloc O).frozen? ⟨X, 3, none⟩ = false := by
  have k := h.keep ((Below.refl _ _).alloc (Nat.le_refl _) O)
  exact ⟨k.c0, k.c1, k.c2, k.c3, k.f0, k.f1, k.f2, k.f3⟩
def samS (x y : Sg) : Bool := samC x.1 y.1 x.2 y.2
def oneB (u v : Value) : Prop := ∀ g, u.ownBlock = some g → v.ownBlock = some g → False
abbrev z4 (w : World) (X : Nat) : Prop := B4 w X (.int .i64 0) (.int .i64 0) (.string ⟨#[]⟩) (.slice none 0 0)

theorem cell_dr {w : World} {p : Addr} {v : Value} (h : w.cell? p = some v) : w.drew.cell? p = some v := h
theorem ne_pt {X Y i j : Nat} (h : Y ≠ X) : ¬ (X = Y ∧ i = j) := fun e => h e.1.symm
abbrev O0 : Obj := .cells #[.int .i64 0, .int .i64 0, .string ⟨#[]⟩, .slice none 0 0] 214
theorem bw0 {w w1 : World} (b : Below w.drew.heap.size w.drew w1) : Below w.heap.size w w1 := ((Below.refl _ w).drew).trans b
theorem bw1 {w w1 : World} (b : Below (w.alloc (.cells #[.int .i64 0, .int .i64 0, .string ⟨#[]⟩, .slice none 0 0] 214)).drew.heap.size (w.alloc (.cells #[.int .i64 0, .int .i64 0, .string ⟨#[]⟩, .slice none 0 0] 214)).drew w1) : Below w.heap.size w w1 := (((Below.refl _ w).alloc (Nat.le_refl _) _).drew).trans (b.mono (by simp))
theorem bw2 {w w1 : World} (b : Below ((w.alloc (.cells #[.int .i64 0, .int .i64 0, .string ⟨#[]⟩, .slice none 0 0] 214)).alloc (.cells #[.int .i64 0, .int .i64 0, .string ⟨#[]⟩, .slice none 0 0] 214)).drew.heap.size ((w.alloc (.cells #[.int .i64 0, .int .i64 0, .string ⟨#[]⟩, .slice none 0 0] 214)).alloc (.cells #[.int .i64 0, .int .i64 0, .string ⟨#[]⟩, .slice none 0 0] 214)).drew w1) : Below w.heap.size w w1 := ((((Below.refl _ w).alloc (Nat.le_refl _) _).alloc (by simp) _).drew).trans (b.mono (by simp; omega))
theorem bx1 {w w1 : World} (b : Below (w.alloc (.cells #[.int .i64 0, .int .i64 0, .string ⟨#[]⟩, .slice none 0 0] 214)).heap.size (w.alloc (.cells #[.int .i64 0, .int .i64 0, .string ⟨#[]⟩, .slice none 0 0] 214)) w1) : Below w.heap.size w w1 := ((Below.refl _ w).alloc (Nat.le_refl _) _).trans (b.mono (by simp))
theorem bx2 {w w1 : World} (b : Below ((w.alloc (.cells #[.int .i64 0, .int .i64 0, .string ⟨#[]⟩, .slice none 0 0] 214)).alloc (.cells #[.int .i64 0, .int .i64 0, .string ⟨#[]⟩, .slice none 0 0] 214)).heap.size ((w.alloc (.cells #[.int .i64 0, .int .i64 0, .string ⟨#[]⟩, .slice none 0 0] 214)).alloc (.cells #[.int .i64 0, .int .i64 0, .string ⟨#[]⟩, .slice none 0 0] 214)) w1) : Below w.heap.size w w1 := (((Below.refl _ w).alloc (Nat.le_refl _) _).alloc (by simp) _).trans (b.mono (by simp; omega))
theorem zC1 {w w1 : World} (b : Below (w.alloc (.cells #[.int .i64 0, .int .i64 0, .string ⟨#[]⟩, .slice none 0 0] 214)).heap.size (w.alloc (.cells #[.int .i64 0, .int .i64 0, .string ⟨#[]⟩, .slice none 0 0] 214)) w1) : z4 w1 w.heap.size := (B4.new w _ _ _ _ _ _ rfl).keep b
theorem zC2 {w w1 : World} (b : Below ((w.alloc (.cells #[.int .i64 0, .int .i64 0, .string ⟨#[]⟩, .slice none 0 0] 214)).alloc (.cells #[.int .i64 0, .int .i64 0, .string ⟨#[]⟩, .slice none 0 0] 214)).heap.size ((w.alloc (.cells #[.int .i64 0, .int .i64 0, .string ⟨#[]⟩, .slice none 0 0] 214)).alloc (.cells #[.int .i64 0, .int .i64 0, .string ⟨#[]⟩, .slice none 0 0] 214)) w1) : z4 w1 w.heap.size := ((B4.new w _ _ _ _ 214 _ rfl).keep ((Below.refl _ _).alloc (Nat.le_refl _) _)).keep b
theorem zD2 {w w1 : World} (b : Below ((w.alloc (.cells #[.int .i64 0, .int .i64 0, .string ⟨#[]⟩, .slice none 0 0] 214)).alloc (.cells #[.int .i64 0, .int .i64 0, .string ⟨#[]⟩, .slice none 0 0] 214)).heap.size ((w.alloc (.cells #[.int .i64 0, .int .i64 0, .string ⟨#[]⟩, .slice none 0 0] 214)).alloc (.cells #[.int .i64 0, .int .i64 0, .string ⟨#[]⟩, .slice none 0 0] 214)) w1) : z4 w1 (w.heap.size + 1) := (B4.new (w.alloc (.cells #[.int .i64 0, .int .i64 0, .string ⟨#[]⟩, .slice none 0 0] 214)) _ _ _ _ _ _ (sz1 w _)).keep b
theorem zA1 {w w1 : World} (b : Below (w.alloc (.cells #[.int .i64 0, .int .i64 0, .string ⟨#[]⟩, .slice none 0 0] 214)).drew.heap.size (w.alloc (.cells #[.int .i64 0, .int .i64 0, .string ⟨#[]⟩, .slice none 0 0] 214)).drew w1) : z4 w1 w.heap.size := ((B4.new w _ _ _ _ _ _ rfl).keep ((Below.refl _ _).drew)).keep b
theorem zA2 {w w1 : World} (b : Below ((w.alloc (.cells #[.int .i64 0, .int .i64 0, .string ⟨#[]⟩, .slice none 0 0] 214)).alloc (.cells #[.int .i64 0, .int .i64 0, .string ⟨#[]⟩, .slice none 0 0] 214)).drew.heap.size ((w.alloc (.cells #[.int .i64 0, .int .i64 0, .string ⟨#[]⟩, .slice none 0 0] 214)).alloc (.cells #[.int .i64 0, .int .i64 0, .string ⟨#[]⟩, .slice none 0 0] 214)).drew w1) : z4 w1 w.heap.size := (((B4.new w _ _ _ _ 214 _ rfl).keep ((Below.refl _ _).alloc (Nat.le_refl _) _)).keep ((Below.refl _ _).drew)).keep b
theorem zB2 {w w1 : World} (b : Below ((w.alloc (.cells #[.int .i64 0, .int .i64 0, .string ⟨#[]⟩, .slice none 0 0] 214)).alloc (.cells #[.int .i64 0, .int .i64 0, .string ⟨#[]⟩, .slice none 0 0] 214)).drew.heap.size ((w.alloc (.cells #[.int .i64 0, .int .i64 0, .string ⟨#[]⟩, .slice none 0 0] 214)).alloc (.cells #[.int .i64 0, .int .i64 0, .string ⟨#[]⟩, .slice none 0 0] 214)).drew w1) : z4 w1 (w.heap.size + 1) := ((B4.new (w.alloc (.cells #[.int .i64 0, .int .i64 0, .string ⟨#[]⟩, .slice none 0 0] 214)) _ _ _ _ _ _ (sz1 w _)).keep ((Below.refl _ _).drew)).keep b

theorem Kids.put {w : World} {sl : Value} {L : List Value} {X : Nat} {a b c e : Value} (h : Kids w sl L) (hi : ∀ v ∈ L, Ifc v) (hz : z4 w X) : Kids (put4 w X a b c e) sl L := by
  rcases h with h | ⟨g, hv, hc⟩
  · exact .inl h
  · refine .inr ⟨g, hv, fun i hl => ?_⟩
    have hne : g ≠ X := fun e => by
      subst e
      have h0 := hc 0 (by omega)
      rw [hz.c0] at h0
      have h1 := Option.some.inj h0
      rcases hi _ (List.getElem_mem (by omega : 0 < L.length)) with q | ⟨u, y, q⟩
      · rw [q] at h1; cases h1
      · rw [q] at h1; cases h1
    exact cell_pt (hc i hl) hne
theorem KidsN.put {lo : Nat} {w : World} {sl : Value} {L : List Value} {X : Nat} {a b c e : Value} (h : KidsN lo w sl L) (hi : ∀ v ∈ L, Ifc v) (hz : z4 w X) : KidsN lo (put4 w X a b c e) sl L := ⟨h.1.put hi hz, h.2⟩
theorem KidsN.al {lo : Nat} {w : World} {sl : Value} {L : List Value} {O : Obj} (h : KidsN lo w sl L) : KidsN lo (w.alloc O) sl L := ⟨h.1.below ((Below.refl _ _).alloc (Nat.le_refl _) O) (Nat.le_refl _), h.2⟩
theorem B4.at {w : World} {X : Nat} {a b c e : Value} (h : B4 w X a b c e) : At4 w X a b c e := ⟨h.c0, h.c1, h.c2, h.c3⟩
/-- Both are there, in blocks of their own. -/
def Both (wr wc : World) (X Y : Nat) (a b c sl a' b' c' sl' : Value) (L M : List Value) : Prop :=
  At4 wc X a b c sl ∧ At4 wc Y a' b' c' sl' ∧ KidsN wr.heap.size wc sl L ∧ KidsN wr.heap.size wc sl' M ∧ wr.heap.size ≤ X ∧ wr.heap.size ≤ Y ∧ Below wr.heap.size wr wc
section
variable {wr w2 : World} {X Y : Nat} {a b c sl a' b' c' sl' : Value} {L M : List Value}
theorem fin_C (bv : Below wr.heap.size wr w2) (hT : (∀ v ∈ L, Ifc v) ∧ (∀ v ∈ M, Ifc v)) (K1 : KidsN wr.heap.size w2 sl L) (K2 : KidsN wr.heap.size w2 sl' M) (qX : z4 w2 X) (qY : z4 w2 Y) (hne : X ≠ Y) (hX : wr.heap.size ≤ X) (hY : wr.heap.size ≤ Y) :
    Both wr (put4 (put4 w2 X a b c sl) Y a' b' c' sl') X Y a b c sl a' b' c' sl' L M := by
  have qY' := qY.farPut hne a b c sl
  exact ⟨((qX.put a b c sl).farPut hne.symm a' b' c' sl').at, (qY'.put a' b' c' sl').at, (K1.put hT.1 qX).put hT.1 qY', (K2.put hT.2 qX).put hT.2 qY', hX, hY, below_put (below_put bv hX _ _ _ _) hY _ _ _ _⟩
theorem fin_B (bv : Below wr.heap.size wr w2) (hT : (∀ v ∈ L, Ifc v) ∧ (∀ v ∈ M, Ifc v)) (K1 : KidsN wr.heap.size w2 sl L) (K2 : KidsN wr.heap.size w2 sl' M) (qX : z4 w2 X) (hX : wr.heap.size ≤ X) :
    Both wr (put4 (put4 (w2.alloc (.cells #[.int .i64 0, .int .i64 0, .string ⟨#[]⟩, .slice none 0 0] 214)) X a b c sl) w2.heap.size a' b' c' sl') X w2.heap.size a b c sl a' b' c' sl' L M :=
  fin_C (bv.alloc bv.size _) hT K1.al K2.al (qX.keep ((Below.refl _ _).alloc (Nat.le_refl _) _)) (B4.new w2 _ _ _ _ _ _ rfl) (Nat.ne_of_lt qX.lt) hX bv.size
theorem fin_D (bv : Below wr.heap.size wr w2) (hT : (∀ v ∈ L, Ifc v) ∧ (∀ v ∈ M, Ifc v)) (K1 : KidsN wr.heap.size w2 sl L) (K2 : KidsN wr.heap.size w2 sl' M) (qY : z4 w2 Y) (hY : wr.heap.size ≤ Y) :
    Both wr (put4 (w2.alloc (.cells #[a, b, c, sl] 214)) Y a' b' c' sl') w2.heap.size Y a b c sl a' b' c' sl' L M := by
  have q := qY.keep ((Below.refl w2.heap.size w2).alloc (Nat.le_refl _) (.cells #[a, b, c, sl] 214))
  have h := B4.new w2 a b c sl 214 w2.heap.size rfl
  exact ⟨(h.farPut (Nat.ne_of_lt qY.lt) a' b' c' sl').at, (q.put a' b' c' sl').at, K1.al.put hT.1 q, K2.al.put hT.2 q, bv.size, hY, below_put (bv.alloc bv.size _) hY _ _ _ _⟩
theorem fin_A (bv : Below wr.heap.size wr w2) (K1 : KidsN wr.heap.size w2 sl L) (K2 : KidsN wr.heap.size w2 sl' M) :
    Both wr ((w2.alloc (.cells #[a, b, c, sl] 214)).alloc (.cells #[a', b', c', sl'] 214)) w2.heap.size (w2.heap.size + 1) a b c sl a' b' c' sl' L M := by
  have h := (B4.new w2 a b c sl 214 w2.heap.size rfl).keep ((Below.refl _ _).alloc (Nat.le_refl _) (.cells #[a', b', c', sl'] 214))
  have h' := B4.new (w2.alloc (.cells #[a, b, c, sl] 214)) a' b' c' sl' 214 (w2.heap.size + 1) (sz1 w2 _)
  exact ⟨h.at, h'.at, K1.al.al, K2.al.al, bv.size, Nat.le_succ_of_le bv.size, (bv.alloc bv.size _).alloc (by simp; exact Nat.le_succ_of_le bv.size) _⟩
theorem fin_E (bv : Below wr.heap.size wr w2) (K1 : KidsN wr.heap.size w2 sl L) (K2 : KidsN wr.heap.size w2 sl' M) :
    Both wr ((w2.alloc (.cells #[a', b', c', sl'] 214)).alloc (.cells #[a, b, c, sl] 214)) (w2.heap.size + 1) w2.heap.size a b c sl a' b' c' sl' L M := by
  have h := (B4.new w2 a' b' c' sl' 214 w2.heap.size rfl).keep ((Below.refl _ _).alloc (Nat.le_refl _) (.cells #[a, b, c, sl] 214))
  have h' := B4.new (w2.alloc (.cells #[a', b', c', sl'] 214)) a b c sl 214 (w2.heap.size + 1) (sz1 w2 _)
  exact ⟨h'.at, h.at, K1.al.al, K2.al.al, Nat.le_succ_of_le bv.size, bv.size, (bv.alloc bv.size _).alloc (by simp; exact Nat.le_succ_of_le bv.size) _⟩
end

theorem allz_app {α β : Type} (f : α → β → Bool) : ∀ (x : List α) (y : List β) (a : List α) (b : List β), x.length = y.length → allz f (x ++ a) (y ++ b) = (allz f x y && allz f a b)
  | [], [], a, b, _ => by simp [allz]
  | [], _ :: _, _, _, h => by simp at h
  | _ :: _, [], _, _, h => by simp at h
  | p :: x, q :: y, a, b, h => by
    show (f p q && allz f (x ++ a) (y ++ b)) = (f p q && allz f x y && allz f a b)
    rw [allz_app f x y a b (by simpa using h), Bool.and_assoc]
theorem allz_kid {d e : Nat} : ∀ (ps : List (T d)) (qs : List (T e)), allz samS (kidS ps) (kidS qs) = allz (samC d e) ps qs
  | [], _ => by simp [kidS, allz]
  | _ :: _, [] => by simp [kidS, allz]
  | p :: r, q :: t => by
    show (samC d e p q && allz samS (kidS r) (kidS t)) = _
    rw [allz_kid r t]; rfl
theorem cl_n {d : Nat} {k n : Int} {s : ByteArray} {ps : List (T d)} (h : Cl (d + 1) (mkT k n s ps)) : k ≠ 6 ∧ ps.length = if k = 3 ∨ k = 4 then 1 else if k = 5 then 2 else 0 := by
  rcases h with ⟨h1, _, h3⟩ | ⟨h1, _, h3⟩ | ⟨h1, _, _, p, h4, _⟩ | ⟨h1, _, p, q, h3, _⟩ | ⟨h1, _, _, h4⟩
  · simp only at h1 h3; subst h1 h3; simp
  · simp only at h1 h3; subst h1 h3; simp
  · simp only at h1 h4; subst h4; rcases h1 with rfl | rfl <;> simp
  · simp only at h1 h3; subst h1 h3; simp
  · simp only at h1 h4; subst h1 h4; simp
theorem sam_no {d e : Nat} {k n k' n' : Int} {s s' : ByteArray} {ps : List (T d)} {qs : List (T e)} (h : alk k n s k' n' s' = false) : samS ⟨d + 1, mkT k n s ps⟩ ⟨e + 1, mkT k' n' s' qs⟩ = false := by
  show samC (d + 1) (e + 1) (mkT k n s ps) (mkT k' n' s' qs) = false
  rw [samC_mk]
  unfold alk at h
  rw [h]; simp
theorem sam_yes {d e : Nat} {k n k' n' : Int} {s s' : ByteArray} {ps : List (T d)} {qs : List (T e)} (h : alk k n s k' n' s' = true) (hc : Cl (d + 1) (mkT k n s ps)) (hc' : Cl (e + 1) (mkT k' n' s' qs)) :
    ps.length = qs.length ∧ samS ⟨d + 1, mkT k n s ps⟩ ⟨e + 1, mkT k' n' s' qs⟩ = allz (samC d e) ps qs := by
  have hk : k = k' := by unfold alk at h; simp only [Bool.and_eq_true, decide_eq_true_eq] at h; exact h.1.1
  have hl : ps.length = qs.length := by rw [(cl_n hc).2, (cl_n hc').2, hk]
  refine ⟨hl, ?_⟩
  show samC (d + 1) (e + 1) (mkT k n s ps) (mkT k' n' s' qs) = _
  rw [samC_mk]
  unfold alk at h
  rw [h, decide_eq_true hl]; simp
theorem KidsN.gr {lo g : Nat} {w w' : World} {sl : Value} {L : List Value} (h : KidsN lo w sl L) (hg : w.grownBy w' (some g)) (hl : g < lo) : KidsN lo w' sl L := by
  refine ⟨?_, h.2⟩
  rcases h.1 with q | ⟨b, hv, hc⟩
  · exact .inl q
  · refine .inr ⟨b, hv, fun i hi => hg.cell (hc i hi) (fun e => ?_)⟩
    have := h.2 b (by rw [hv]; rfl)
    have e2 : b = g := by simpa using e
    omega
theorem KidsN.dr {lo : Nat} {w : World} {sl : Value} {L : List Value} (h : KidsN lo w sl L) : KidsN lo w.drew sl L := ⟨h.1.below ((Below.refl _ _).drew) (Nat.le_refl _), h.2⟩
/-- What lies there at the start. -/
def Start (w : World) (x y : Value) (V : Bool) : Prop := ∃ S S', Stk ((w.alloc (.cells #[x] 139)).alloc (.cells #[y] 139)) w.heap.size (.slice (some ⟨w.heap.size, 0, none⟩) 1 1) S ∧ Stk ((w.alloc (.cells #[x] 139)).alloc (.cells #[y] 139)) w.heap.size (.slice (some ⟨w.heap.size + 1, 0, none⟩) 1 1) S' ∧
  S.length = S'.length ∧ (∀ y ∈ S, ClS y) ∧ (∀ y ∈ S', ClS y) ∧ allz samS S S' = V ∧ (S.map cntS).sum ≤ 2000 ∧ (S'.map cntS).sum ≤ 2000
end Go.Proofs.YtccmmkhcacglhaaGreatDoor
