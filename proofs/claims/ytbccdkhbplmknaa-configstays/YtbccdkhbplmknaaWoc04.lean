import Derived.Test.YtbccdkhbplmknaaWoc03
import Derived.Laws.Rows
import Derived.Laws.Tables
import Derived.Deep.WholeRow
import Derived.Laws.CopyOwn
import Derived.Shelf.Slices.Reverse
import Derived.Test.YtbccdkhbplmknaaRows
import Derived.Lib.OwnBridge
import Derived.Test.YtbccdkhbplmknaaWoc02
import Derived.Test.YtbccdkhbplmknaaWoc01
import Derived.Deep.RegionHeld
import Derived.Deep.DrawnRows
import Derived.WalkSmall
import Derived.BigQuiet
import Derived.Deep.QuietTactic

/- What the program's setOf and numbers answer. -/
namespace Go.Proofs.Ytbccdkhbplmknaa
open Go.RowKit Go.Lib
set_option linter.unusedSimpArgs false
set_option linter.unusedVariables false
attribute [local go_sem ↓] Go.wp_at_zero Go.wp_at_succ

/-- The cells of a set of states. -/
def bV (s : Nat → Bool) : List Value := (List.range 40).map (fun i => .bool (s i))
def upd (s : Nat → Bool) (i : Nat) (b : Bool) : Nat → Bool := fun j => if j = i then b else s j
theorem bV_size (s : Nat → Bool) : (bV s).toArray.size = 40 := by simp [bV]
theorem bV_at (s : Nat → Bool) (i : Nat) (hi : i < 40) : (bV s)[i]? = some (.bool (s i)) := by
  unfold bV
  rw [List.getElem?_map, List.getElem?_range hi]
  rfl
theorem bV_set (s : Nat → Bool) (i : Nat) (hi : i < 40) (b : Bool) : (bV s).set i (.bool b) = bV (upd s i b) := by
  apply List.ext_getElem (by simp [bV])
  intro j h1 h2
  rw [List.getElem_set]
  simp only [bV, List.getElem_map, List.getElem_range, upd]
  by_cases e : i = j
  · rw [if_pos e, if_pos e.symm]
  · rw [if_neg e, if_neg (fun h => e h.symm)]
theorem bV_one (s : Nat → Bool) : (bV s).toArray.all (·.oneCell') = true := by
  rw [Array.all_eq_true_iff_forall_mem]
  intro v hv
  simp only [bV, List.mem_toArray, List.mem_map] at hv
  obtain ⟨i, _, rfl⟩ := hv
  rfl
theorem bV_congr {s t : Nat → Bool} (h : ∀ i < 40, s i = t i) : bV s = bV t := by
  unfold bV
  apply List.map_congr_left
  intro i hi
  rw [h i (by simpa using hi)]
/-- The block Y is that set. -/
def Arr (w : World) (Y : Nat) (s : Nat → Bool) : Prop := w.heap[Y]? = some (.cells (bV s).toArray 93 (0, 0))
theorem Arr.lt {w : World} {Y : Nat} {s : Nat → Bool} (h : Arr w Y s) : Y < w.heap.size := (Array.getElem?_eq_some_iff.1 h).1
theorem Arr.cell {w : World} {Y : Nat} {s : Nat → Bool} (h : Arr w Y s) (i : Nat) (hi : i < 40) : w.cell? ⟨Y, i, none⟩ = some (.bool (s i)) := by
  rw [cell_of_row w Y i _ _ _ h]
  simpa using bV_at s i hi
theorem Arr.frozen {w : World} {Y : Nat} {s : Nat → Bool} (h : Arr w Y s) (i : Nat) : w.frozen? ⟨Y, i, none⟩ = false := by
  have h' : w.heap[Y]? = some (.cells (bV s).toArray 93 (0, 0)) := h
  simp [World.frozen?, h']
theorem Arr.set {w : World} {Y : Nat} {s : Nat → Bool} (h : Arr w Y s) (i : Nat) (hi : i < 40) (b : Bool) : Arr (w.setCell ⟨Y, i, none⟩ (.bool b)) Y (upd s i b) := by
  have h' : w.heap[Y]? = some (.cells (bV s).toArray 93 (0, 0)) := h
  unfold Arr
  rw [← bV_set s i hi b]
  simp [World.setCell, Array.getElem?_modify, h']
theorem Arr.blk {w w' : World} {Y : Nat} {s : Nat → Bool} (h : Arr w Y s) (e : w'.heap[Y]? = w.heap[Y]?) : Arr w' Y s := e.trans h
theorem Arr.on {w w' : World} {Y : Nat} {s : Nat → Bool} (h : Arr w Y s) (hb : Below w.heap.size w w') : Arr w' Y s := h.blk (hb.block Y h.lt)
theorem Arr.congr {w : World} {Y : Nat} {s t : Nat → Bool} (h : Arr w Y s) (e : ∀ i < 40, s i = t i) : Arr w Y t := by unfold Arr; rw [← bV_congr e]; exact h
theorem bV_zero : (bV fun _ => false).toArray = #[.bool false, .bool false, .bool false, .bool false, .bool false, .bool false, .bool false, .bool false, .bool false, .bool false, .bool false, .bool false, .bool false, .bool false, .bool false, .bool false, .bool false, .bool false, .bool false, .bool false, .bool false, .bool false, .bool false, .bool false, .bool false, .bool false, .bool false, .bool false, .bool false, .bool false, .bool false, .bool false, .bool false, .bool false, .bool false, .bool false, .bool false, .bool false, .bool false, .bool false] := by kernel_rfl
theorem Arr.new (w : World) (s : Nat → Bool) (n : Nat) (hn : n = w.heap.size) : Arr (w.alloc (.cells (bV s).toArray 93)) n s := by subst hn; exact heap_alloc_last w _
theorem Try.infoCfs : (Try.prog.info? 93).map (·.size) = some 40 := by kernel_rfl
/-- The numbers of a set, rising. -/
def numS (s : Nat → Bool) (n : Nat) : List Int := ((List.range n).filter s).map (fun i : Nat => (i : Int))
theorem numS_succ (s : Nat → Bool) (n : Nat) : numS s (n + 1) = if s n then numS s n ++ [(n : Int)] else numS s n := by
  unfold numS
  rw [List.range_succ, List.filter_append, List.map_append]
  by_cases h : s n = true
  · rw [if_pos h]; simp [h]
  · rw [if_neg h]; simp [h]
theorem numS_len (s : Nat → Bool) (n : Nat) : (numS s n).length ≤ n := by
  unfold numS
  rw [List.length_map]
  have := List.length_filter_le s (List.range n)
  rwa [List.length_range] at this
theorem idx_arr (s : Nat → Bool) (j : Nat) (hj : j < 40) (W : World) : (Instr.index 93 (.agg (bV s).toArray) (.int .i64 (j : Int))).run Try.prog W = .ok (.bool (s j)) W := by
  have h1 : (0 : Int) ≤ (j : Int) ∧ (j : Int) < ((40 : Nat) : Int) := by omega
  have h2 := bV_at s j hj
  simp [Instr.index, run_underlying Try.underlying93, asIntOf, h1, go_sem, part, h2, hj]
set_option maxRecDepth 100000 in
set_option maxHeartbeats 4000000 in
theorem numbers_any (w : World) (s : Nat → Bool) :
    Calls Try.prog 44 #[.agg (bV s).toArray] w fun e w' => ∃ a n c, e = .returned (.slice a n c) ∧ OwnK w' w.heap.size 3 1 rInt (.slice a n c) (numS s 40) ∧ Below w.heap.size w w' := by
  have hal : Below w.heap.size w (w.alloc (.cells (bV s).toArray 93)) := (Below.refl _ _).alloc (Nat.le_refl _) _
  have hA : Arr (w.alloc (.cells (bV s).toArray 93)) w.heap.size s := Arr.new w s _ rfl
  go_enter Try.func44, Try.ntmps44
  go_upto_region 2 with fail
  refine wp_region_lit ?_
  refine wpList_load_row rfl 93 _ rfl w.heap.size rfl 93 (bV s).toArray (0, 0) _ hA Try.underlying93 rfl (by rw [bV_size]; exact Try.infoCfs) ?_
  go_wp2
  obtain ⟨i0, hi, hz0, hz1, hz2⟩ := info_parts Try.infoIntT
  generalize w.alloc (.cells (bV s).toArray 93) = wx at *
  have hix := fun j hj W => idx_arr s j hj W
  generalize (bV s).toArray = cs at *
  go_loopw [3, 7] (fun t ix wr => ∃ (j : Nat), j ≤ 40 ∧ ix = .int .i64 (j : Int) ∧ OwnK wr w.heap.size 3 1 rInt t (numS s j) ∧ Below w.heap.size w wr) (fun _ ix _ => 40 - (RowKit.intOf ix).toNat)
  case atStart => exact ⟨0, Nat.zero_le _, rfl, ownK_nil _ _ _ _ _, hal⟩
  case round =>
    obtain ⟨j, hj, rfl, hO, hb⟩ := hrel
    obtain ⟨va, vc, rfl, hvl, hvm⟩ := hO.form
    by_cases hlt : j < 40
    · have i1 : (j : Int) < 40 := by omega
      have i2 : (0 : Int) ≤ (j : Int) := by omega
      have hx := hix j hlt
      clear hix
      have HS := hidOf (numS_succ s j)
      have hil := numS_len s j
      cases hsj : s j with
      | true =>
        have HS2 : Hid (numS s (j + 1) = numS s j ++ [(j : Int)]) := by have := HS.out; rw [hsj, if_pos rfl] at this; exact this
        rw [hsj] at hx
        clear HS hsj
        go_wp2_with (first
          | (at_builtin; refine wpList_pushK wr rfl _ _ 59 rfl w.heap.size 3 i0 (.int .i64 0) 1 8 Try.underlying59 hi hz0 hz1 hz2 rfl kp_int (.slice va (numS s j).length vc) (numS s j) (j : Int) [.int .i64 (j : Int)] wr.heap.size rfl rfl rfl (by simp [Value.oneCell']) hO rfl hb.size (fun x hx => (hO.blk x hx).2) (by omega) (by unfold maxLen; omega) hb.size ?_; intro vb wb hOb hgb hbb)
          | fail)
        go_wp2
        go_roundw
        case rel => exact ⟨j + 1, hlt, by go_num, by rw [HS2.out]; exact hOb, hb.trans hbb⟩
        case measure => simp [RowKit.intOf]; omega
      | false =>
        have HS2 : Hid (numS s (j + 1) = numS s j) := by have := HS.out; rw [hsj, if_neg (by simp)] at this; exact this
        rw [hsj] at hx
        clear HS hsj
        go_wp2
        go_roundw
        case rel => exact ⟨j + 1, hlt, by go_num, by rw [HS2.out]; exact hO, hb⟩
        case measure => simp [RowKit.intOf]; omega
    · have i1 : ¬ (j : Int) < 40 := by omega
      obtain rfl : j = 40 := by omega
      go_wp2
      go_ret
      exact ⟨_, _, _, rfl, hO, hb⟩
/-- The set of numbers that are states'. -/
def stO (n : Nat) (xs : List Int) : Nat → Bool := fun i => decide (i < n) && xs.contains (i : Int)
theorem stO_nil (n : Nat) : stO n [] = fun _ => false := by funext i; simp [stO]
theorem stO_snoc (n : Nat) (xs : List Int) (x : Int) (i : Nat) : stO n (xs ++ [x]) i = if nmB n x = true ∧ i = x.toNat then true else stO n xs i := by
  unfold stO nmB
  rw [Bool.eq_iff_iff]
  by_cases h : x = (i : Int)
  · subst h
    by_cases hi : i < n
    · rw [if_pos (by simp [hi])]
      simp [hi]
    · rw [if_neg (by simp; omega)]
      simp [hi]
  · have h1 : ¬ ((decide (0 ≤ x) && decide (x < (n : Int))) = true ∧ i = x.toNat) := by simp; omega
    rw [if_neg h1]
    have h2 : ((i : Int) == x) = false := beq_eq_false_iff_ne.2 (fun e => h e.symm)
    simp [List.contains_eq_any_beq, List.any_append, h2]
    exact fun _ e => absurd e.symm h
theorem zs_at {ok : Nat → Prop} {w : World} {l : List Int} {a : Option Addr} {n cap : Nat} (h : RdZs ok w l (.slice a n cap)) (j : Nat) (hj : j < l.length) : ∃ b off, a = some ⟨b, off, none⟩ ∧ b < w.heap.size ∧ w.cell? ⟨b, off + j, none⟩ = some (.int .i64 l[j]) := by
  obtain ⟨a1, cap1, he, h1, h2, h3⟩ := h
  simp only [Value.slice.injEq] at he
  obtain ⟨rfl, rfl, rfl⟩ := he
  obtain ⟨b, off, cs, rfl, _, hb, hl, hr, hc⟩ := h3 j hj
  refine ⟨b, off, rfl, hb, ?_⟩
  have := hc 0 (.int .i64 l[j]) (by rw [hr]; rfl)
  rwa [Nat.mul_one, Nat.add_zero] at this
set_option maxRecDepth 100000 in
set_option maxHeartbeats 4000000 in
theorem setOf_any {ok ok' : Nat → Prop} {w : World} {l : List Nd} {xs : List Int} {v u : Value} (h : RdNd ok w l v) (hx : RdZs ok' w xs u) (h40 : l.length ≤ 40) :
    Calls Try.prog 43 #[v, u] w fun e w' => e = .returned (.agg (bV (stO l.length xs)).toArray) ∧ Below w.heap.size w w' := by
  obtain ⟨a, cap, rfl, hlc, hcm⟩ := h.form
  obtain ⟨xa, xc, rfl, hxc, hxm⟩ := hx.form
  unfold maxLen at hxm
  obtain ⟨n, hn⟩ : ∃ n, l.length = n := ⟨_, rfl⟩
  rw [hn] at hlc h40 ⊢
  clear h hn
  have HX := hidOf hx
  clear hx
  have h1 := fun i w1 => isState_any (w := w1) (a := a) i hlc hcm
  obtain ⟨m, hm⟩ : ∃ m, xs.length = m := ⟨_, rfl⟩
  rw [hm] at hxc ⊢
  have HM := hidOf hm
  clear hm
  go_enter Try.func43, Try.ntmps43
  go_upto_region 2 with fail
  rw [← bV_zero]
  have hR0 : Arr ((w.alloc (.cells (bV fun _ => false).toArray 93)).alloc (.cells (bV fun _ => false).toArray 93)) w.heap.size (fun _ => false) := (Arr.new w _ _ rfl).on ((Below.refl _ _).alloc (Nat.le_refl _) _)
  have hS0 : Arr ((w.alloc (.cells (bV fun _ => false).toArray 93)).alloc (.cells (bV fun _ => false).toArray 93)) (w.heap.size + 1) (fun _ => false) := Arr.new _ _ _ (by simp)
  have hb0 : Below w.heap.size w ((w.alloc (.cells (bV fun _ => false).toArray 93)).alloc (.cells (bV fun _ => false).toArray 93)) := ((Below.refl _ _).alloc (Nat.le_refl _) _).alloc (by simp) _
  generalize ((w.alloc (.cells (bV fun _ => false).toArray 93)).alloc (.cells (bV fun _ => false).toArray 93)) = wx at *
  go_wp2
  go_loopw [10] (fun ix wr => ∃ (j : Nat), j ≤ m ∧ ix = .int .i64 (j : Int) ∧ Arr wr (w.heap.size + 1) (stO n (xs.take j)) ∧ Arr wr w.heap.size (fun _ => false) ∧ Below w.heap.size w wr) (fun ix _ => m - (RowKit.intOf ix).toNat)
  case atStart => exact ⟨0, Nat.zero_le _, rfl, by rw [List.take_zero, stO_nil]; exact hS0, hR0, hb0⟩
  case round =>
    obtain ⟨j, hj, rfl, hS, hR, hb⟩ := hrel
    by_cases hlt : j < m
    · have hjl : j < xs.length := by rw [HM.out]; exact hlt
      have i1 : (j : Int) < (m : Int) := by omega
      have i2 : (0 : Int) ≤ (j : Int) := by omega
      obtain ⟨b, off, rfl, hbl, c0⟩ := zs_at HX.out j hjl
      replace c0 := (hb.cell (p := ⟨b, off + j, none⟩) hbl).trans c0
      have HT : Hid (xs.take (j + 1) = xs.take j ++ [xs[j]]) := List.take_succ_eq_append_getElem hjl
      generalize xs[j] = x at *
      by_cases hq : nmB n x = true
      · obtain ⟨k, rfl, hk⟩ := nmB_true hq
        have hS2 := hS.set k (by omega) true
        have hS3 : Arr (wr.setCell ⟨w.heap.size + 1, k, none⟩ (.bool true)) (w.heap.size + 1) (stO n (xs.take (j + 1))) := hS2.congr (fun i hi => by
          rw [HT.out, stO_snoc, hq, Int.toNat_natCast]
          unfold upd
          simp)
        have hR3 : Arr (wr.setCell ⟨w.heap.size + 1, k, none⟩ (.bool true)) w.heap.size (fun _ => false) := hR.blk (Below.heap_setCell _ _ _ _ (by simp))
        have ck := hS.cell k (by omega)
        have fk := hS.frozen k
        have k1 : (k : Int) < 40 := by omega
        have k2 : (0 : Int) ≤ (k : Int) := by omega
        have hc := h1 (k : Int)
        rw [hq] at hc
        clear h1 hS hS2 hR
        go_wp2_with (first | (go_at_call 40; refine (hc _).mono ?_; rintro e w2 ⟨rfl, rfl⟩) | fail)
        go_roundw
        case rel => exact ⟨j + 1, hlt, by go_num, hS3, hR3, hb.setCell (p := ⟨w.heap.size + 1, k, none⟩) (by simp) _⟩
        case measure => simp [RowKit.intOf]; omega
      · have hq' : nmB n x = false := by simpa using hq
        have hS3 : Arr wr (w.heap.size + 1) (stO n (xs.take (j + 1))) := hS.congr (fun i hi => by
          rw [HT.out, stO_snoc, if_neg (fun h => hq h.1)])
        have hc := h1 x
        rw [hq'] at hc
        clear h1 hS hq
        go_wp2_with (first | (go_at_call 40; refine (hc _).mono ?_; rintro e w2 ⟨rfl, rfl⟩) | fail)
        go_roundw
        case rel => exact ⟨j + 1, hlt, by go_num, hS3, hR, hb⟩
        case measure => simp [RowKit.intOf]; omega
    · have i1 : ¬ (j : Int) < (m : Int) := by omega
      have ht : xs.take j = xs := List.take_of_length_le (by rw [HM.out]; omega)
      rw [ht] at hS
      go_upto_region 8 with fail
      refine wp_region_lit ?_
      refine wpList_load_row rfl 93 _ rfl (w.heap.size + 1) rfl 93 (bV (stO n xs)).toArray (0, 0) _ hS Try.underlying93 rfl (by rw [bV_size]; exact Try.infoCfs) ?_
      refine wpList_store_row rfl 93 _ _ rfl w.heap.size (bV (stO n xs)).toArray rfl rfl 93 (bV fun _ => false).toArray hR (by rw [bV_size]; exact Try.infoCfs) (by rw [bV_size, bV_size]) (bV_one _) ?_
      go_wp2
      have hR4 : (wr.setRow w.heap.size (bV (stO n xs)).toArray).heap[w.heap.size]? = some (.cells (bV (stO n xs)).toArray 93 (0, 0)) := setRow_heap wr w.heap.size _ _ _ _ hR
      refine bodyPost_ret (results_cell_row rfl _ _ w.heap.size 93 _ (0, 0) _ rfl hR4 Try.underlying93 rfl (by rw [bV_size]; exact Try.infoCfs)) rfl ?_
      exact ⟨rfl, below_setRow hb (Nat.le_refl _) _⟩
end Go.Proofs.Ytbccdkhbplmknaa

/- Contracts of the library at this program. -/
namespace Go.Proofs.Ytbccdkhbplmknaa
open Go.Shelf
set_option linter.unusedVariables false

def renV : Ren := { f := fun x => match x with | 112 => 62 | n => n, t := fun x => match x with | 28 => 59 | 3 => 3 | 4 => 4 | 0 => 0 | n => n, g := fun x => x }
theorem laysV : Lays.n112 Try.prog renV :=
  { mixed := by kernel_rfl, f112 := Try.func62.trans (congrArg some (by kernel_rfl)), t0 := Try.underlying0, a0 := Try.isAgg0, z0 := Try.sizeOf0, v0 := Try.zeroValue0, t3 := Try.underlying3, a3 := Try.isAgg3, z3 := Try.sizeOf3, v3 := Try.zeroValue3, t4 := Try.underlying4, a4 := Try.isAgg4, z4 := Try.sizeOf4, v4 := Try.zeroValue4, t28 := Try.underlying59, a28 := Try.isAgg59, z28 := Try.sizeOf59, v28 := Try.zeroValue59 }
end Go.Proofs.Ytbccdkhbplmknaa

/- A row of numbers turned about; what the program's Leave answers. -/
namespace Go.Proofs.Ytbccdkhbplmknaa
open Go.RowKit Go.Lib Go.Shelf
set_option linter.unusedSimpArgs false
set_option linter.unusedVariables false
attribute [local go_sem ↓] Go.wp_at_zero Go.wp_at_succ

theorem flat_one : ∀ l : List Int, (l.map (fun x => [Value.int .i64 x])).flatten = l.map (Value.int .i64)
  | [] => rfl
  | x :: t => by rw [List.map_cons, List.flatten_cons, flat_one t]; rfl
theorem ownK_z {w : World} {base : Nat} {v : Value} {l : List Int} (h : OwnK w base 3 1 rInt v l) : w.ownsRow base 3 1 v l.length (l.map (Value.int .i64)) := by
  obtain ⟨qs, h1, h2, h3⟩ := h
  have e : qs = l.map (fun x => [Value.int .i64 x]) := by
    apply List.ext_getElem (by simp [h2])
    intro i a b
    have := (h3 i (by simpa using b) a).2
    rw [List.getElem_map]
    exact this
  rw [e] at h1
  rw [flat_one] at h1
  exact h1
theorem z_ownK {w : World} {base : Nat} {v : Value} {l : List Int} (h : w.ownsRow base 3 1 v l.length (l.map (Value.int .i64))) : OwnK w base 3 1 rInt v l := by
  refine ⟨l.map (fun x => [Value.int .i64 x]), ?_, by simp, fun i h h' => by simp [rInt]⟩
  rw [flat_one]
  exact h
theorem rev_any {w : World} {base : Nat} {a : Option Addr} {n c : Nat} {l : List Int} (h : OwnK w base 3 1 rInt (.slice a n c) l) (hb : l.length ≤ 1000) :
    Calls Try.prog 62 #[.slice a n c] w fun e w' => e = .returned (.tuple #[]) ∧ OwnK w' base 3 1 rInt (.slice a n c) l.reverse ∧ Below base w w' := by
  obtain ⟨a', c', he, _, _⟩ := h.form
  simp only [Value.slice.injEq] at he
  obtain ⟨rfl, rfl, rfl⟩ := he
  have hz := ownK_z h
  by_cases h0 : l = []
  · subst h0
    refine (Any.slices_Reverse_int_empty laysV a c w).mono ?_
    rintro e w' ⟨rfl, rfl⟩
    exact ⟨rfl, h, Below.refl _ _⟩
  · have hl : 0 < l.length := List.length_pos_iff.2 h0
    obtain ⟨g, cap, hg⟩ : ∃ g cap, Value.slice a l.length c = .slice (some ⟨g, 0, none⟩) l.length cap := by
      rcases hz.2 with ⟨_, h2⟩ | ⟨g, cap, cur, h1, _⟩
      · omega
      · exact ⟨g, cap, h1⟩
    simp only [Value.slice.injEq, true_and] at hg
    obtain ⟨rfl, rfl⟩ := hg
    obtain ⟨g', cap', hv, hbg, _, _, _, _, hH⟩ := holds_of_ownsRow hz (by simp)
    simp only [Value.slice.injEq, Option.some.injEq, Addr.mk.injEq, and_true, true_and] at hv
    obtain ⟨rfl, rfl⟩ := hv
    refine (Any.slices_Reverse_int laysV g 0 c l w hH (by omega)).mono ?_
    rintro e w' ⟨rfl, q, rfl⟩
    have h2 := ownsRow_putRow (q := q) (k := l.length) (ys := l.reverse) hz (by simp) (Nat.le_refl _)
    rw [List.take_of_length_le (by simp)] at h2
    refine ⟨rfl, z_ownK ?_, below_putRow (Below.refl _ _) hbg⟩
    rw [List.length_reverse]
    exact h2
theorem OwnK.down {w : World} {base lo e k : Nat} {v : Value} {l : List Int} (h : OwnK w base e k rInt v l) (hlo : lo ≤ base) : OwnK w lo e k rInt v l := by
  obtain ⟨qs, h1, h2, h3⟩ := h
  refine ⟨qs, ⟨h1.1, ?_⟩, h2, fun i h h' => ⟨(h3 i h h').1, (h3 i h h').2⟩⟩
  rcases h1.2 with hn | ⟨g, cap, cur, e1, e2, e3⟩
  · exact .inl hn
  · exact .inr ⟨g, cap, cur, e1, by omega, e3⟩
/-- Which are left. -/
def lvS (l : List Nd) (xs : List Int) (o : Int) : Nat → Bool := fun i => stO l.length xs i && decide ((i : Int) ≠ o) && hoB l o i
def lvB (l : List Nd) (xs : List Int) (o : Int) : List Int := if fmB l && (decide (o = -1) || nmB l.length o) then (numS (lvS l xs o) 40).reverse else []
/-- The set when j of them are asked. -/
def lvJ (l : List Nd) (xs : List Int) (o : Int) (j : Nat) : Nat → Bool := fun i => if i < j then lvS l xs o i else stO l.length xs i
theorem lvJ_step (l : List Nd) (xs : List Int) (o : Int) (j : Nat) (b : Bool) (hb : b = lvS l xs o j) : upd (lvJ l xs o j) j b = lvJ l xs o (j + 1) := by
  funext i
  unfold upd lvJ
  by_cases e : i = j
  · subst e
    rw [if_pos rfl, if_pos (by omega), hb]
  · rw [if_neg e]
    by_cases h : i < j
    · rw [if_pos h, if_pos (by omega)]
    · rw [if_neg h, if_neg (by omega)]
theorem lvJ_end (l : List Nd) (xs : List Int) (o : Int) (i : Nat) : lvJ l xs o l.length i = lvS l xs o i := by
  unfold lvJ
  split
  · rfl
  · unfold lvS stO
    rw [decide_eq_false (by omega)]
    rfl
set_option maxRecDepth 100000 in
set_option maxHeartbeats 8000000 in
theorem leave_any {ok ok' : Nat → Prop} {w : World} {l : List Nd} {xs : List Int} {v u : Value} (h : RdNd ok w l v) (hx : RdZs ok' w xs u) (o : Int) :
    Calls Try.prog 41 #[v, u, .int .i64 o] w fun e w' => ∃ a n c, e = .returned (.slice a n c) ∧ OwnK w' w.heap.size 3 1 rInt (.slice a n c) (lvB l xs o) ∧ Below w.heap.size w w' := by
  obtain ⟨a, cap, rfl, hlc, hcm⟩ := h.form
  have hfm := tformed_any h
  obtain ⟨xa, xc, rfl, _, _⟩ := hx.form
  unfold maxLen at hcm
  have his := fun i w1 => isState_any (w := w1) (a := a) (n := l.length) (cap := cap) i hlc (by unfold maxLen; omega)
  unfold lvB
  cases hf : fmB l with
  | false =>
    rw [hf] at hfm
    rw [if_neg (by simp)]
    go_enter Try.func41, Try.ntmps41
    go_wp2_with (first | (go_at_call 14; refine hfm.mono ?_; rintro e w1 ⟨rfl, b1⟩) | fail)
    go_ret
    exact ⟨_, _, _, rfl, ownK_nil _ _ _ _ _, b1⟩
  | true =>
    have h40 := fm_40 hf
    rw [hf] at hfm
    by_cases ho : o = -1 ∨ nmB l.length o = true
    · rw [if_pos (by rcases ho with h | h <;> simp [h])]
      have ho2 : o = -1 ∨ (0 ≤ o ∧ o < l.length) := by
        rcases ho with h | h
        · exact .inl h
        · obtain ⟨k, rfl, hk⟩ := nmB_true h
          exact .inr ⟨by omega, by omega⟩
      have hho := fun i w1 (b1 : Below w.heap.size w w1) => holds_any (h.on kp_nd b1) o i ho2
      have hso := fun w1 (b1 : Below w.heap.size w w1) => setOf_any (h.on kp_nd b1) (RdK.on kp_int hx b1) h40
      have hEND := hidOf (fun i => lvJ_end l xs o i)
      have hSTEP := hidOf (fun j b hb => lvJ_step l xs o j b hb)
      have hL0 : lvJ l xs o 0 = stO l.length xs := by funext i; simp [lvJ]
      rw [← hL0] at hso
      have HV : Hid (∀ j, lvS l xs o j = (stO l.length xs j && decide ((j : Int) ≠ o) && hoB l o j)) := fun j => rfl
      have HJ : Hid (∀ j, lvJ l xs o j j = stO l.length xs j) := fun j => by simp [lvJ]
      obtain ⟨n, hn⟩ : ∃ n, l.length = n := ⟨_, rfl⟩
      rw [hn] at hlc h40 his hfm hEND HV HJ ho ⊢
      simp only [hn] at hho hso
      clear hx h hL0 hf
      -- WAYS
      rcases ho with hq | hq
      · have e1 : (o != -1) = false := by simp [hq]
        have hi := his o
        clear hq
        go_enter Try.func41, Try.ntmps41
        go_upto_region 3 with (first | (go_at_call 14; refine hfm.mono ?_; rintro e w1 ⟨rfl, b1⟩) | (go_at_call 40; refine (hi _).mono ?_; rintro e w2 ⟨rfl, rfl⟩) | fail)
        refine wp_region_lit ?_
        go_wp2_with (first
          | (go_at_call 43; refine (hso _ b1).mono ?_; rintro e w3 ⟨rfl, b3⟩)
          | (refine wpList_store_row rfl 93 _ _ rfl w3.heap.size (bV (lvJ l xs o 0)).toArray rfl rfl 93 _ (heap_alloc_last w3 _) (by rw [bV_size]; exact Try.infoCfs) (by rw [bV_size]; rfl) (bV_one _) ?_; rw [World.setRow_alloc_new])
          | fail)
        have hb3 := b1.trans (b3.mono b1.size)
        have hal : Below w3.heap.size w3 (w3.alloc (.cells (bV (lvJ l xs o 0)).toArray 93)) := (Below.refl _ _).alloc (Nat.le_refl _) _
        have hA4 : Arr (w3.alloc (.cells (bV (lvJ l xs o 0)).toArray 93)) w3.heap.size (lvJ l xs o 0) := Arr.new w3 _ _ rfl
        have hb4 := hb3.trans (hal.mono hb3.size)
        have hw3 : w.heap.size ≤ w3.heap.size := hb3.size
        generalize w3.alloc (.cells (bV (lvJ l xs o 0)).toArray 93) = w4 at *
        obtain ⟨Y, hY⟩ : ∃ Y, w3.heap.size = Y := ⟨_, rfl⟩
        rw [hY] at hA4 hw3 ⊢
        clear hY hso hfm his b1 b3 hal hb3
        go_loopw [28] (fun ix wr => ∃ (j : Nat), j ≤ n ∧ ix = .int .i64 (j : Int) ∧ Arr wr Y (lvJ l xs o j) ∧ Below w.heap.size w wr) (fun ix _ => n - (RowKit.intOf ix).toNat)
        case atStart => exact ⟨0, Nat.zero_le _, rfl, hA4, hb4⟩
        case round =>
          obtain ⟨j, hj, rfl, hA, hb⟩ := hrel
          by_cases hlt : j < n
          · have i1 : (j : Int) < (n : Int) := by omega
            have i2 : (0 : Int) ≤ (j : Int) := by omega
            have i3 : (j : Int) < 40 := by omega
            have cj := hA.cell j (by omega)
            have fj := hA.frozen j
            rw [HJ.out j] at cj
            have hv := HV.out j
            have hc := hho (j : Int)
            have hset := fun b (e : b = lvS l xs o j) => (show Arr (wr.setCell ⟨Y, j, none⟩ (.bool b)) Y (lvJ l xs o (j + 1)) by rw [← hSTEP.out j b e]; exact hA.set j (by omega) b)
            have hbw : ∀ b : Bool, Below w.heap.size w (wr.setCell ⟨Y, j, none⟩ (.bool b)) := fun b => hb.setCell (p := ⟨Y, j, none⟩) hw3 _
            clear hho
            cases hs : stO n xs j with
            | false =>
              rw [hs] at cj hv
              have hset := hset false (by rw [hv]; rfl)
              have hbw := hbw false
              clear hs hv
              go_wp2
              go_roundw
              case rel => exact ⟨j + 1, hlt, by go_num, hset, hbw⟩
              case measure => simp [RowKit.intOf]; omega
            | true =>
              rw [hs] at cj hv
              by_cases he : (j : Int) = o
              · have he' : ((j : Int) != o) = false := by simp [he]
                have hset := hset false (by rw [hv, decide_eq_false (by simpa using he)]; rfl)
                have hbw := hbw false
                clear hs hv he
                go_wp2
                go_roundw
                case rel => exact ⟨j + 1, hlt, by go_num, hset, hbw⟩
                case measure => simp [RowKit.intOf]; omega
              · have he' : ((j : Int) != o) = true := by simp [he]
                have hset := hset (hoB l o j) (by rw [hv, decide_eq_true he]; rfl)
                have hbw := hbw (hoB l o j)
                clear hs hv he
                generalize hoB l o (j : Int) = bb at *
                go_wp2_with (first | (go_at_call 61; refine (hc _ hb).mono ?_; rintro e w5 ⟨rfl, rfl⟩) | fail)
                go_roundw
                case rel => exact ⟨j + 1, hlt, by go_num, hset, hbw⟩
                case measure => simp [RowKit.intOf]; omega
          · have i1 : ¬ (j : Int) < (n : Int) := by omega
            obtain rfl : j = n := by omega
            have hA2 : Arr wr Y (lvS l xs o) := hA.congr (fun i _ => hEND.out i)
            have hnu := fun w1 => numbers_any w1 (lvS l xs o)
            have hln := numS_len (lvS l xs o) 40
            clear hA
            go_upto_region 9 with fail
            refine wp_region_lit ?_
            refine wpList_load_row rfl 93 _ rfl Y rfl 93 (bV (lvS l xs o)).toArray (0, 0) _ hA2 Try.underlying93 rfl (by rw [bV_size]; exact Try.infoCfs) ?_
            go_wp2_with (first
              | (go_at_call 44; refine (hnu _).mono ?_; rintro e w6 ⟨ra, rn, rc, rfl, hO6, b6⟩; have hr6 := rev_any hO6 (by omega))
              | (go_at_call 62; refine hr6.mono ?_; rintro e w7 ⟨rfl, hO7, b7⟩)
              | fail)
            go_ret
            have hb6 := hb.trans (b6.mono hb.size)
            refine ⟨_, _, _, rfl, ?_, hb6.trans (b7.mono hb.size)⟩
            exact OwnK.down hO7 hb.size
      · have e1 : (o != -1) = true := by obtain ⟨k, rfl, _⟩ := nmB_true hq; exact bne_iff_ne.2 (by omega)
        have hi := his o
        rw [hq] at hi
        go_enter Try.func41, Try.ntmps41
        go_upto_region 3 with (first | (go_at_call 14; refine hfm.mono ?_; rintro e w1 ⟨rfl, b1⟩) | (go_at_call 40; refine (hi _).mono ?_; rintro e w2 ⟨rfl, rfl⟩) | fail)
        refine wp_region_lit ?_
        go_wp2_with (first
          | (go_at_call 43; refine (hso _ b1).mono ?_; rintro e w3 ⟨rfl, b3⟩)
          | (refine wpList_store_row rfl 93 _ _ rfl w3.heap.size (bV (lvJ l xs o 0)).toArray rfl rfl 93 _ (heap_alloc_last w3 _) (by rw [bV_size]; exact Try.infoCfs) (by rw [bV_size]; rfl) (bV_one _) ?_; rw [World.setRow_alloc_new])
          | fail)
        have hb3 := b1.trans (b3.mono b1.size)
        have hal : Below w3.heap.size w3 (w3.alloc (.cells (bV (lvJ l xs o 0)).toArray 93)) := (Below.refl _ _).alloc (Nat.le_refl _) _
        have hA4 : Arr (w3.alloc (.cells (bV (lvJ l xs o 0)).toArray 93)) w3.heap.size (lvJ l xs o 0) := Arr.new w3 _ _ rfl
        have hb4 := hb3.trans (hal.mono hb3.size)
        have hw3 : w.heap.size ≤ w3.heap.size := hb3.size
        generalize w3.alloc (.cells (bV (lvJ l xs o 0)).toArray 93) = w4 at *
        obtain ⟨Y, hY⟩ : ∃ Y, w3.heap.size = Y := ⟨_, rfl⟩
        rw [hY] at hA4 hw3 ⊢
        clear hY hso hfm his b1 b3 hal hb3
        go_loopw [28] (fun ix wr => ∃ (j : Nat), j ≤ n ∧ ix = .int .i64 (j : Int) ∧ Arr wr Y (lvJ l xs o j) ∧ Below w.heap.size w wr) (fun ix _ => n - (RowKit.intOf ix).toNat)
        case atStart => exact ⟨0, Nat.zero_le _, rfl, hA4, hb4⟩
        case round =>
          obtain ⟨j, hj, rfl, hA, hb⟩ := hrel
          by_cases hlt : j < n
          · have i1 : (j : Int) < (n : Int) := by omega
            have i2 : (0 : Int) ≤ (j : Int) := by omega
            have i3 : (j : Int) < 40 := by omega
            have cj := hA.cell j (by omega)
            have fj := hA.frozen j
            rw [HJ.out j] at cj
            have hv := HV.out j
            have hc := hho (j : Int)
            have hset := fun b (e : b = lvS l xs o j) => (show Arr (wr.setCell ⟨Y, j, none⟩ (.bool b)) Y (lvJ l xs o (j + 1)) by rw [← hSTEP.out j b e]; exact hA.set j (by omega) b)
            have hbw : ∀ b : Bool, Below w.heap.size w (wr.setCell ⟨Y, j, none⟩ (.bool b)) := fun b => hb.setCell (p := ⟨Y, j, none⟩) hw3 _
            clear hho
            cases hs : stO n xs j with
            | false =>
              rw [hs] at cj hv
              have hset := hset false (by rw [hv]; rfl)
              have hbw := hbw false
              clear hs hv
              go_wp2
              go_roundw
              case rel => exact ⟨j + 1, hlt, by go_num, hset, hbw⟩
              case measure => simp [RowKit.intOf]; omega
            | true =>
              rw [hs] at cj hv
              by_cases he : (j : Int) = o
              · have he' : ((j : Int) != o) = false := by simp [he]
                have hset := hset false (by rw [hv, decide_eq_false (by simpa using he)]; rfl)
                have hbw := hbw false
                clear hs hv he
                go_wp2
                go_roundw
                case rel => exact ⟨j + 1, hlt, by go_num, hset, hbw⟩
                case measure => simp [RowKit.intOf]; omega
              · have he' : ((j : Int) != o) = true := by simp [he]
                have hset := hset (hoB l o j) (by rw [hv, decide_eq_true he]; rfl)
                have hbw := hbw (hoB l o j)
                clear hs hv he
                generalize hoB l o (j : Int) = bb at *
                go_wp2_with (first | (go_at_call 61; refine (hc _ hb).mono ?_; rintro e w5 ⟨rfl, rfl⟩) | fail)
                go_roundw
                case rel => exact ⟨j + 1, hlt, by go_num, hset, hbw⟩
                case measure => simp [RowKit.intOf]; omega
          · have i1 : ¬ (j : Int) < (n : Int) := by omega
            obtain rfl : j = n := by omega
            have hA2 : Arr wr Y (lvS l xs o) := hA.congr (fun i _ => hEND.out i)
            have hnu := fun w1 => numbers_any w1 (lvS l xs o)
            have hln := numS_len (lvS l xs o) 40
            clear hA
            go_upto_region 9 with fail
            refine wp_region_lit ?_
            refine wpList_load_row rfl 93 _ rfl Y rfl 93 (bV (lvS l xs o)).toArray (0, 0) _ hA2 Try.underlying93 rfl (by rw [bV_size]; exact Try.infoCfs) ?_
            go_wp2_with (first
              | (go_at_call 44; refine (hnu _).mono ?_; rintro e w6 ⟨ra, rn, rc, rfl, hO6, b6⟩; have hr6 := rev_any hO6 (by omega))
              | (go_at_call 62; refine hr6.mono ?_; rintro e w7 ⟨rfl, hO7, b7⟩)
              | fail)
            go_ret
            have hb6 := hb.trans (b6.mono hb.size)
            refine ⟨_, _, _, rfl, ?_, hb6.trans (b7.mono hb.size)⟩
            exact OwnK.down hO7 hb.size
      -- END WAYS
    · rw [if_neg (by simp at ho ⊢; exact ho)]
      have e1 : (o != -1) = true := by simp; exact fun e => ho (.inl e)
      have e2 : nmB l.length o = false := by simpa using fun e => ho (.inr e)
      have hi := his o
      rw [e2] at hi
      clear his
      go_enter Try.func41, Try.ntmps41
      go_wp2_with (first | (go_at_call 14; refine hfm.mono ?_; rintro e w1 ⟨rfl, b1⟩) | (go_at_call 40; refine (hi _).mono ?_; rintro e w2 ⟨rfl, rfl⟩) | fail)
      go_ret
      exact ⟨_, _, _, rfl, ownK_nil _ _ _ _ _, b1⟩
end Go.Proofs.Ytbccdkhbplmknaa

/- What the program's rising, fits and Legal answer. -/
namespace Go.Proofs.Ytbccdkhbplmknaa
open Go.RowKit Go.Lib
set_option linter.unusedSimpArgs false
set_option linter.unusedVariables false
attribute [local go_sem ↓] Go.wp_at_zero Go.wp_at_succ

/-- Do the numbers rise, and are they states'? -/
def rsB (n : Nat) : Int → List Int → Bool
  | _, [] => true
  | la, x :: r => if x ≤ la ∨ x ≥ (n : Int) then false else rsB n x r
set_option maxRecDepth 100000 in
set_option maxHeartbeats 4000000 in
theorem rising_any {ok : Nat → Prop} {w : World} {xs : List Int} {u : Value} {a : Option Addr} {n cap : Nat} (hlc : n ≤ cap) (hcm : cap ≤ maxLen) (hx : RdZs ok w xs u) :
    Calls Try.prog 51 #[.slice a n cap, u] w fun e w' => e = .returned (.bool (rsB n (-1) xs)) ∧ w = w' := by
  obtain ⟨xa, xc, rfl, hxc, hxm⟩ := hx.form
  unfold maxLen at hxm hcm
  have HX := hidOf hx
  obtain ⟨m, hm⟩ : ∃ m, xs.length = m := ⟨_, rfl⟩
  rw [hm] at hxc ⊢
  have HM := hidOf hm
  obtain ⟨V, hV⟩ : ∃ V, rsB n (-1) xs = V := ⟨_, rfl⟩
  rw [hV]
  have HV : Hid (rsB n (-1) (xs.drop 0) = V) := hV
  clear hx hm hV
  go_enter Try.func51, Try.ntmps51
  go_wp2
  go_loop [5, 10] (fun la ix => ∃ (j : Nat) (y : Int), j ≤ m ∧ ix = .int .i64 (j : Int) ∧ la = .int .i64 y ∧ Hid (rsB n y (xs.drop j) = V)) (fun _ ix => m - (RowKit.intOf ix).toNat)
  case atStart => exact ⟨0, -1, Nat.zero_le _, rfl, rfl, HV⟩
  case round =>
    obtain ⟨j, y, hj, rfl, rfl, HI⟩ := hrel
    by_cases hlt : j < m
    · have hjl : j < xs.length := by rw [HM.out]; exact hlt
      have i1 : (j : Int) < (m : Int) := by omega
      have i2 : (0 : Int) ≤ (j : Int) := by omega
      obtain ⟨b, off, rfl, hbl, c0⟩ := zs_at HX.out j hjl
      have HD : Hid (xs.drop j = xs[j] :: xs.drop (j + 1)) := List.drop_eq_getElem_cons hjl
      generalize xs[j] = x at *
      have hI : (if x ≤ y ∨ x ≥ (n : Int) then false else rsB n x (xs.drop (j + 1))) = V := by have h := HI.out; rw [HD.out] at h; exact h
      by_cases q1 : x ≤ y
      · rw [if_pos (.inl q1)] at hI
        subst hI
        go_wp2
        go_ret
        exact ⟨rfl, rfl⟩
      · by_cases q2 : x ≥ (n : Int)
        · rw [if_pos (.inr q2)] at hI
          subst hI
          go_wp2
          go_ret
          exact ⟨rfl, rfl⟩
        · rw [if_neg (by omega)] at hI
          have HI2 : Hid (rsB n x (xs.drop (j + 1)) = V) := hI
          clear hI
          go_wp2
          go_round
          case rel => exact ⟨j + 1, x, hlt, by go_num, rfl, HI2⟩
          case measure => simp [RowKit.intOf]; omega
    · have i1 : ¬ (j : Int) < (m : Int) := by omega
      have hVt : V = true := by rw [← HI.out, List.drop_eq_nil_of_le (by rw [HM.out]; omega)]; rfl
      subst hVt
      go_wp2
      go_ret
      exact ⟨rfl, rfl⟩
/-- How many of the first j lie right in i; and of the set. -/
def cA (l : List Nd) (i : Int) : Nat → Nat
  | 0 => 0
  | j + 1 => if nP l j = i then cA l i j + 1 else cA l i j
def cO (l : List Nd) (s : Nat → Bool) (i : Int) : Nat → Nat
  | 0 => 0
  | j + 1 => if nP l j = i ∧ s j = true then cO l s i j + 1 else cO l s i j
theorem cA_le (l : List Nd) (i : Int) : ∀ j, cA l i j ≤ j
  | 0 => Nat.le_refl _
  | j + 1 => by have := cA_le l i j; unfold cA; split <;> omega
theorem cO_le (l : List Nd) (s : Nat → Bool) (i : Int) : ∀ j, cO l s i j ≤ j
  | 0 => Nat.le_refl _
  | j + 1 => by have := cO_le l s i j; unfold cO; split <;> omega
/-- Are as many on as must be? -/
def fitB (l : List Nd) (s : Nat → Bool) (i : Int) : Bool :=
  if 0 ≤ i ∧ s i.toNat = false then decide (cO l s i l.length = 0) else if 0 ≤ i ∧ (nL l i.toNat || nA l i.toNat) = true then decide (cO l s i l.length = cA l i l.length) else decide (cO l s i l.length = 1)
theorem int_beq_nat (a b : Nat) : ((a : Int) == (b : Int)) = decide (a = b) := by rw [Bool.eq_iff_iff, beq_iff_eq, decide_eq_true_eq]; omega
set_option maxRecDepth 100000 in
set_option maxHeartbeats 8000000 in
theorem fits_any {ok : Nat → Prop} {w : World} {l : List Nd} {v : Value} (h : RdNd ok w l v) (h40 : l.length ≤ 40) (s : Nat → Bool) (i : Int) (hi : i = -1 ∨ (0 ≤ i ∧ i < l.length)) :
    Calls Try.prog 52 #[v, .agg (bV s).toArray, .int .i64 i] w fun e w' => e = .returned (.bool (fitB l s i)) ∧ Below w.heap.size w w' := by
  obtain ⟨a, cap, rfl, hlc, hcm⟩ := h.form
  unfold maxLen at hcm
  have hal : Below w.heap.size w (w.alloc (.cells (bV s).toArray 93)) := (Below.refl _ _).alloc (Nat.le_refl _) _
  have hA0 : Arr (w.alloc (.cells (bV s).toArray 93)) w.heap.size s := Arr.new w s _ rfl
  have HC := hidOf h
  have HCA := fun j => cA_le l i j
  have HCO := fun j => cO_le l s i j
  have HF : Hid (fitB l s i = if 0 ≤ i ∧ s i.toNat = false then decide (cO l s i l.length = 0) else if 0 ≤ i ∧ (nL l i.toNat || nA l i.toNat) = true then decide (cO l s i l.length = cA l i l.length) else decide (cO l s i l.length = 1)) := rfl
  obtain ⟨n, hn⟩ : ∃ n, l.length = n := ⟨_, rfl⟩
  rw [hn] at hlc h40 hi HF ⊢
  have HN := hidOf hn
  clear h hn
  go_enter Try.func52, Try.ntmps52
  go_upto_region 2 with fail
  generalize w.alloc (.cells (bV s).toArray 93) = wx at *
  obtain ⟨Y, hY⟩ : ∃ Y, w.heap.size = Y := ⟨_, rfl⟩
  have hYw : w.heap.size ≤ Y := by omega
  simp only [hY] at hA0
  rw [show w.heap.size = Y from hY]
  clear hY
  go_wp2
  go_loopw [7, 8, 13] (fun ca co ix wr => ∃ (j : Nat), j ≤ n ∧ ix = .int .i64 (j : Int) ∧ ca = .int .i64 (cA l i j : Int) ∧ co = .int .i64 (cO l s i j : Int) ∧ Arr wr Y s ∧ Below w.heap.size w wr) (fun _ _ ix _ => n - (RowKit.intOf ix).toNat)
  case atStart => exact ⟨0, Nat.zero_le _, rfl, rfl, rfl, hA0, hal⟩
  case round =>
    obtain ⟨j, hj, rfl, rfl, rfl, hA, hb⟩ := hrel
    have ha1 := HCA j
    have ho1 := HCO j
    by_cases hlt : j < n
    · obtain ⟨b, off, rfl, hbl, c0, c1, c2, c3, c4, c5, c6⟩ := nd_at HC.out j (by rw [HN.out]; exact hlt)
      replace c0 := (hb.cell (p := ⟨b, off + j * 7, none⟩) hbl).trans c0
      replace c1 := (hb.cell (p := ⟨b, off + j * 7 + 1, none⟩) hbl).trans c1
      replace c2 := (hb.cell (p := ⟨b, off + j * 7 + 2, none⟩) hbl).trans c2
      replace c3 := (hb.cell (p := ⟨b, off + j * 7 + 3, none⟩) hbl).trans c3
      replace c4 := (hb.cell (p := ⟨b, off + j * 7 + 4, none⟩) hbl).trans c4
      replace c5 := (hb.cell (p := ⟨b, off + j * 7 + 5, none⟩) hbl).trans c5
      replace c6 := (hb.cell (p := ⟨b, off + j * 7 + 6, none⟩) hbl).trans c6
      have HSA : Hid (cA l i (j + 1) = if nP l j = i then cA l i j + 1 else cA l i j) := rfl
      have HSO : Hid (cO l s i (j + 1) = if nP l j = i ∧ s j = true then cO l s i j + 1 else cO l s i j) := rfl
      generalize (nAt l j).1 = x0 at *
      generalize nP l j = x1 at *
      generalize nD l j = x2 at *
      generalize nB l j = x3 at *
      generalize (nAt l j).2.2.1 = x4 at *
      generalize (nAt l j).2.2.2.1 = x5 at *
      generalize nL l j = x6 at *
      have i1 : (j : Int) < (n : Int) := by omega
      have i2 : (0 : Int) ≤ (j : Int) := by omega
      have i3 : (j : Int) < 40 := by omega
      have hal2 : Below wr.heap.size wr (wr.alloc (.cells #[.string x0, .int .i64 x1, .int .i64 x2, .int .i64 x3, .bool x4, .bool x5, .bool x6] 72)) := (Below.refl wr.heap.size wr).alloc (Nat.le_refl _) _
      have hX : Bn (wr.alloc (.cells #[.string x0, .int .i64 x1, .int .i64 x2, .int .i64 x3, .bool x4, .bool x5, .bool x6] 72)) wr.heap.size [.string x0, .int .i64 x1, .int .i64 x2, .int .i64 x3, .bool x4, .bool x5, .bool x6] := Bn.new wr _ _ _ rfl
      have hb1 := hb.trans (hal2.mono hb.size)
      have hA1 := hA.on hal2
      clear HCA HCO
      go_upto_region 5 with fail
      generalize (wr.alloc (.cells #[.string x0, .int .i64 x1, .int .i64 x2, .int .i64 x3, .bool x4, .bool x5, .bool x6] 72)) = wx at *
      clear c0 c1 c2 c3 c4 c5 c6 hal2
      obtain ⟨y1, _⟩ := hX 1 _ rfl
      clear hX
      have cj := hA1.cell j (by omega)
      by_cases q1 : x1 = i
      · have q1' : (x1 != i) = false := by simp [q1]
        have eA : cA l i (j + 1) = cA l i j + 1 := by rw [HSA.out, if_pos q1]
        cases hs : s j with
        | true =>
          have eO : cO l s i (j + 1) = cO l s i j + 1 := by rw [HSO.out, if_pos ⟨q1, hs⟩]
          rw [hs] at cj
          have HE := hidOf eA
          have HE2 := hidOf eO
          clear q1 hs eA eO
          generalize cA l i j = ca at *
          generalize cO l s i j = co at *
          go_wp2
          go_roundw
          case rel => exact ⟨j + 1, hlt, by go_num, by rw [HE.out]; go_num, by rw [HE2.out]; go_num, hA1, hb1⟩
          case measure => simp [RowKit.intOf]; omega
        | false =>
          have eO : cO l s i (j + 1) = cO l s i j := by rw [HSO.out, if_neg (by simp [hs])]
          rw [hs] at cj
          have HE := hidOf eA
          have HE2 := hidOf eO
          clear q1 hs eA eO
          generalize cA l i j = ca at *
          generalize cO l s i j = co at *
          go_wp2
          go_roundw
          case rel => exact ⟨j + 1, hlt, by go_num, by rw [HE.out]; go_num, by rw [HE2.out], hA1, hb1⟩
          case measure => simp [RowKit.intOf]; omega
      · have q1' : (x1 != i) = true := by simp [q1]
        have HE := hidOf (show cA l i (j + 1) = cA l i j by rw [HSA.out, if_neg q1])
        have HE2 := hidOf (show cO l s i (j + 1) = cO l s i j by rw [HSO.out, if_neg (fun h => q1 h.1)])
        clear q1
        generalize cA l i j = ca at *
        generalize cO l s i j = co at *
        go_wp2
        go_roundw
        case rel => exact ⟨j + 1, hlt, by go_num, by rw [HE.out], by rw [HE2.out], hA1, hb1⟩
        case measure => simp [RowKit.intOf]; omega
    · have i1 : ¬ (j : Int) < (n : Int) := by omega
      obtain rfl : j = n := by omega
      have hF := HF.out
      clear HCA HCO HF
      rcases hi with rfl | ⟨h0, h1⟩
      · rw [if_neg (by omega), if_neg (by omega)] at hF
        rw [← int_beq_nat] at hF
        have HF2 := hidOf hF
        clear hF
        generalize cA l (-1) j = ca at *
        generalize cO l s (-1) j = co at *
        go_wp2
        go_ret
        exact ⟨by rw [HF2.out] <;> rfl, hb⟩
      · obtain ⟨k, rfl⟩ : ∃ k : Nat, i = k := ⟨i.toNat, by omega⟩
        rw [Int.toNat_natCast] at hF
        obtain ⟨b, off, rfl, hbl, c0, c1, c2, c3, c4, c5, c6⟩ := nd_at HC.out k (by rw [HN.out]; omega)
        replace c4 := (hb.cell (p := ⟨b, off + k * 7 + 4, none⟩) hbl).trans c4
        replace c6 := (hb.cell (p := ⟨b, off + k * 7 + 6, none⟩) hbl).trans c6
        have hAA : (nAt l k).2.2.1 = nA l k := rfl
        rw [hAA] at c4
        clear c0 c1 c2 c3 c5 hAA
        have ck := hA.cell k (by omega)
        have k1 : (k : Int) < 40 := by omega
        have k2 : (0 : Int) ≤ (k : Int) := by omega
        have k3 : (k : Int) ≥ 0 := by omega
        generalize nL l k = xl at *
        generalize nA l k = xa at *
        cases hs : s k with
        | false =>
          rw [if_pos ⟨by omega, hs⟩, ← int_beq_nat] at hF
          rw [hs] at ck
          have HF2 := hidOf hF
          clear hF
          generalize cA l k j = ca at *
          generalize cO l s k j = co at *
          clear hs
          go_wp2
          go_ret
          exact ⟨by rw [HF2.out] <;> rfl, hb⟩
        | true =>
          rw [if_neg (by rw [hs]; simp)] at hF
          rw [hs] at ck
          clear hs
          cases xl with
          | true =>
            rw [if_pos ⟨by omega, rfl⟩, ← int_beq_nat] at hF
            have HF2 := hidOf hF
            clear hF
            generalize cA l k j = ca at *
            generalize cO l s k j = co at *
            go_wp2
            go_ret
            exact ⟨by rw [HF2.out] <;> rfl, hb⟩
          | false =>
            cases xa with
            | true =>
              rw [if_pos ⟨by omega, rfl⟩, ← int_beq_nat] at hF
              have HF2 := hidOf hF
              clear hF
              generalize cA l k j = ca at *
              generalize cO l s k j = co at *
              go_wp2
              go_ret
              exact ⟨by rw [HF2.out] <;> rfl, hb⟩
            | false =>
              rw [if_neg (by simp), ← int_beq_nat] at hF
              have HF2 := hidOf hF
              clear hF
              generalize cA l k j = ca at *
              generalize cO l s k j = co at *
              go_wp2
              go_ret
              exact ⟨by rw [HF2.out] <;> rfl, hb⟩
end Go.Proofs.Ytbccdkhbplmknaa

/- What the program's Enter answers. -/
namespace Go.Proofs.Ytbccdkhbplmknaa
open Go.RowKit Go.Lib Go.Shelf
set_option linter.unusedSimpArgs false
set_option linter.unusedVariables false
attribute [local go_sem ↓] Go.wp_at_zero Go.wp_at_succ

/-- Is k entered on the way from o to i, or by default? -/
def enF (l : List Nd) (o i : Int) : Nat → Nat → Bool
  | 0, _ => false
  | f + 1, k => if nP l k = o then hoB l k i else if 0 ≤ nP l k ∧ enF l o i f (nP l k).toNat = true then foB l k i else false
def enS (l : List Nd) (o i : Int) (k : Nat) : Bool := if k < l.length then enF l o i (k + 1) k else false
theorem enF_more {l : List Nd} (hf : fmB l = true) (o i : Int) : ∀ (f k : Nat), k < f → k < l.length → enF l o i f k = enF l o i (k + 1) k
  | 0, k, h, _ => by omega
  | f + 1, k, h, hk => by
    have hp := (fmB_fm hf).plt (i := k) hk
    unfold enF
    by_cases h1 : nP l k = o
    · rw [if_pos h1, if_pos h1]
    rw [if_neg h1, if_neg h1]
    by_cases h0 : 0 ≤ nP l k
    · have e : enF l o i f (nP l k).toNat = enF l o i k (nP l k).toNat := by
        rw [enF_more hf o i f _ (by omega) (by omega), ← enF_more hf o i k _ (by omega) (by omega)]
      rw [e]
    · rw [if_neg (fun h => h0 h.1), if_neg (fun h => h0 h.1)]
theorem enS_eq {l : List Nd} (hf : fmB l = true) (o i : Int) {k : Nat} (hk : k < l.length) : enS l o i k = if nP l k = o then hoB l k i else if 0 ≤ nP l k ∧ enS l o i (nP l k).toNat = true then foB l k i else false := by
  have hp := (fmB_fm hf).plt (i := k) hk
  unfold enS
  rw [if_pos hk]
  by_cases h0 : 0 ≤ nP l k
  · rw [if_pos (show (nP l k).toNat < l.length by omega)]
    have e := enF_more hf o i k (nP l k).toNat (by omega) (by omega)
    show (if nP l k = o then hoB l k i else if 0 ≤ nP l k ∧ enF l o i k (nP l k).toNat = true then foB l k i else false) = _
    rw [e]
  · unfold enF
    by_cases h1 : nP l k = o
    · rw [if_pos h1, if_pos h1]
    · rw [if_neg h1, if_neg h1, if_neg (fun h => h0 h.1), if_neg (fun h => h0 h.1)]
def etB (l : List Nd) (o i : Int) : List Int := if i = o ∨ wiB l i o = false then [] else numS (enS l o i) 40
def enJ (l : List Nd) (o i : Int) (j : Nat) : Nat → Bool := fun k => if k < j then enS l o i k else false
theorem enJ_step (l : List Nd) (o i : Int) (j : Nat) (b : Bool) (hb : b = enS l o i j) : upd (enJ l o i j) j b = enJ l o i (j + 1) := by
  funext k
  unfold upd enJ
  by_cases e : k = j
  · subst e
    rw [if_pos rfl, if_pos (by omega), hb]
  · rw [if_neg e]
    by_cases h : k < j
    · rw [if_pos h, if_pos (by omega)]
    · rw [if_neg h, if_neg (by omega)]
theorem enJ_no (l : List Nd) (o i : Int) (j : Nat) (hb : enS l o i j = false) : enJ l o i j = enJ l o i (j + 1) := by
  rw [← enJ_step l o i j false hb.symm]
  funext k
  unfold upd enJ
  by_cases e : k = j
  · subst e
    rw [if_pos rfl, if_neg (Nat.lt_irrefl _)]
  · rw [if_neg e]
theorem enJ_end (l : List Nd) (o i : Int) (k : Nat) : enJ l o i l.length k = enS l o i k := by
  unfold enJ
  split
  · rfl
  · unfold enS
    rw [if_neg (by assumption)]
theorem wiB_fm {l : List Nd} {i o : Int} (h : wiB l i o = true) : fmB l = true := by
  unfold wiB at h
  cases hf : fmB l
  · rw [hf] at h; simp at h
  · rfl
set_option maxRecDepth 100000 in
set_option maxHeartbeats 8000000 in
theorem enter_any {ok : Nat → Prop} {w : World} {l : List Nd} {v : Value} (h : RdNd ok w l v) (o i : Int) :
    Calls Try.prog 42 #[v, .int .i64 o, .int .i64 i] w fun e w' => ∃ a n c, e = .returned (.slice a n c) ∧ OwnK w' w.heap.size 3 1 rInt (.slice a n c) (etB l o i) ∧ Below w.heap.size w w' := by
  obtain ⟨a, cap, rfl, hlc, hcm⟩ := h.form
  have hwi := twithin_any h i o
  unfold maxLen at hcm
  unfold etB
  by_cases hio : i = o
  · rw [if_pos (.inl hio)]
    have e1 : (i == o) = true := by simp [hio]
    clear hio
    go_enter Try.func42, Try.ntmps42
    go_wp2
    go_ret
    exact ⟨_, _, _, rfl, ownK_nil _ _ _ _ _, Below.refl _ _⟩
  have e1 : (i == o) = false := beq_eq_false_iff_ne.2 hio
  cases hw : wiB l i o with
  | false =>
    rw [if_pos (.inr rfl)]
    rw [hw] at hwi
    clear hio
    go_enter Try.func42, Try.ntmps42
    go_wp2_with (first | (go_at_call 19; refine hwi.mono ?_; rintro e w1 ⟨rfl, b1⟩) | fail)
    go_ret
    exact ⟨_, _, _, rfl, ownK_nil _ _ _ _ _, b1⟩
  | true =>
    rw [if_neg (by simp [hio])]
    rw [hw] at hwi
    have hf := wiB_fm hw
    have h40 := fm_40 hf
    have hho := fun (k : Nat) (hk : k < l.length) w1 (b1 : Below w.heap.size w w1) => holds_any (h.on kp_nd b1) (k : Int) i (.inr ⟨by omega, by omega⟩)
    have hfo := fun (k : Nat) (hk : k < l.length) (hp0 : 0 ≤ nP l k) w1 (b1 : Below w.heap.size w w1) => follows_any (h.on kp_nd b1) k i hk hp0 (by have := ((fmB_fm hf).plt (i := k) hk).2; omega) h40
    have HPL := hidOf (fun (k : Nat) (hk : k < l.length) => (fmB_fm hf).plt (i := k) hk)
    have HE := hidOf (fun (k : Nat) (hk : k < l.length) => enS_eq hf o i hk)
    have hEND := hidOf (fun k => enJ_end l o i k)
    have hSTEP := hidOf (fun j b hb => enJ_step l o i j b hb)
    have hNO := hidOf (fun j hb => enJ_no l o i j hb)
    have HC := hidOf h
    obtain ⟨n, hn⟩ : ∃ n, l.length = n := ⟨_, rfl⟩
    simp only [hn] at hlc h40 hwi hEND HE HPL hho hfo ⊢
    have HN := hidOf hn
    clear h hn hf hw
    have hZ : enJ l o i 0 = fun _ => false := by funext k; simp [enJ]
    go_enter Try.func42, Try.ntmps42
    go_upto_region 4 with (first | (go_at_call 19; refine hwi.mono ?_; rintro e w1 ⟨rfl, b1⟩) | fail)
    rw [← bV_zero, ← hZ]
    have hal : Below w1.heap.size w1 (w1.alloc (.cells (bV (enJ l o i 0)).toArray 93)) := (Below.refl _ _).alloc (Nat.le_refl _) _
    have hA4 : Arr (w1.alloc (.cells (bV (enJ l o i 0)).toArray 93)) w1.heap.size (enJ l o i 0) := Arr.new w1 _ _ rfl
    have hb4 := b1.trans (hal.mono b1.size)
    have hw3 : w.heap.size ≤ w1.heap.size := b1.size
    generalize w1.alloc (.cells (bV (enJ l o i 0)).toArray 93) = w4 at *
    obtain ⟨Y, hY⟩ : ∃ Y, w1.heap.size = Y := ⟨_, rfl⟩
    rw [hY] at hA4 hw3 ⊢
    clear hY hwi b1 hal hZ
    go_wp2
    go_loopw [22] (fun ix wr => ∃ (j : Nat), j ≤ n ∧ ix = .int .i64 (j : Int) ∧ Arr wr Y (enJ l o i j) ∧ Below w.heap.size w wr) (fun ix _ => n - (RowKit.intOf ix).toNat)
    case atStart => exact ⟨0, Nat.zero_le _, rfl, hA4, hb4⟩
    case round =>
      obtain ⟨j, hj, rfl, hA, hb⟩ := hrel
      by_cases hlt : j < n
      · obtain ⟨b, off, rfl, hbl, c0, c1, c2, c3, c4, c5, c6⟩ := nd_at HC.out j (by rw [HN.out]; exact hlt)
        replace c0 := (hb.cell (p := ⟨b, off + j * 7, none⟩) hbl).trans c0
        replace c1 := (hb.cell (p := ⟨b, off + j * 7 + 1, none⟩) hbl).trans c1
        replace c2 := (hb.cell (p := ⟨b, off + j * 7 + 2, none⟩) hbl).trans c2
        replace c3 := (hb.cell (p := ⟨b, off + j * 7 + 3, none⟩) hbl).trans c3
        replace c4 := (hb.cell (p := ⟨b, off + j * 7 + 4, none⟩) hbl).trans c4
        replace c5 := (hb.cell (p := ⟨b, off + j * 7 + 5, none⟩) hbl).trans c5
        replace c6 := (hb.cell (p := ⟨b, off + j * 7 + 6, none⟩) hbl).trans c6
        have hE := HE.out j hlt
        have hpl := HPL.out j hlt
        have hc1 := hho j hlt
        have hc2 := hfo j hlt
        generalize (nAt l j).1 = x0 at *
        generalize nP l j = x1 at *
        generalize nD l j = x2 at *
        generalize nB l j = x3 at *
        generalize (nAt l j).2.2.1 = x4 at *
        generalize (nAt l j).2.2.2.1 = x5 at *
        generalize nL l j = x6 at *
        have i1 : (j : Int) < (n : Int) := by omega
        have i2 : (0 : Int) ≤ (j : Int) := by omega
        have i3 : (j : Int) < 40 := by omega
        have hal : Below wr.heap.size wr (wr.alloc (.cells #[.string x0, .int .i64 x1, .int .i64 x2, .int .i64 x3, .bool x4, .bool x5, .bool x6] 72)) := (Below.refl wr.heap.size wr).alloc (Nat.le_refl _) _
        have hX : Bn (wr.alloc (.cells #[.string x0, .int .i64 x1, .int .i64 x2, .int .i64 x3, .bool x4, .bool x5, .bool x6] 72)) wr.heap.size [.string x0, .int .i64 x1, .int .i64 x2, .int .i64 x3, .bool x4, .bool x5, .bool x6] := Bn.new wr _ _ _ rfl
        have hb1 := hb.trans (hal.mono hb.size)
        have hA1 := hA.on hal
        clear hho hfo hA hb hEND
        go_upto_region 7 with fail
        generalize (wr.alloc (.cells #[.string x0, .int .i64 x1, .int .i64 x2, .int .i64 x3, .bool x4, .bool x5, .bool x6] 72)) = wx at *
        clear c0 c1 c2 c3 c4 c5 c6 hal
        obtain ⟨y1, _⟩ := hX 1 _ rfl
        clear hX
        have cj := hA1.cell j (by omega)
        have fj := hA1.frozen j
        have hset := fun b (e : b = enS l o i j) => (show Arr (wx.setCell ⟨Y, j, none⟩ (.bool b)) Y (enJ l o i (j + 1)) by rw [← hSTEP.out j b e]; exact hA1.set j (by omega) b)
        have hbw : ∀ b : Bool, Below w.heap.size w (wx.setCell ⟨Y, j, none⟩ (.bool b)) := fun b => hb1.setCell (p := ⟨Y, j, none⟩) hw3 _
        by_cases q1 : x1 = o
        · rw [if_pos q1] at hE
          have q1' : (x1 == o) = true := by simp [q1]
          have hset := hset _ hE.symm
          have hbw := hbw (hoB l j i)
          clear q1 hE
          generalize hoB l (j : Int) i = bb at *
          go_wp2_with (first | (go_at_call 61; refine (hc1 _ hb1).mono ?_; rintro e w5 ⟨rfl, rfl⟩) | fail)
          go_roundw
          case rel => exact ⟨j + 1, hlt, by go_num, hset, hbw⟩
          case measure => simp [RowKit.intOf]; omega
        · rw [if_neg q1] at hE
          have q1' : (x1 == o) = false := beq_eq_false_iff_ne.2 q1
          by_cases q2 : 0 ≤ x1
          · obtain ⟨p, rfl⟩ : ∃ p : Nat, x1 = p := ⟨x1.toNat, by omega⟩
            rw [Int.toNat_natCast] at hE
            have cp := hA1.cell p (by omega)
            have ep : enJ l o i j p = enS l o i p := by unfold enJ; rw [if_pos (by omega)]
            rw [ep] at cp
            have k1 : (p : Int) < 40 := by omega
            have k2 : (0 : Int) ≤ (p : Int) := by omega
            cases hs : enS l o i p with
            | true =>
              rw [hs] at cp hE
              rw [if_pos ⟨by omega, rfl⟩] at hE
              have hset := hset _ hE.symm
              have hbw := hbw (foB l j i)
              have hc2 := hc2 (by omega)
              clear q1 hE hs ep
              generalize foB l j i = bb at *
              go_wp2_with (first | (go_at_call 63; refine (hc2 _ hb1).mono ?_; rintro e w5 ⟨rfl, rfl⟩) | fail)
              go_roundw
              case rel => exact ⟨j + 1, hlt, by go_num, hset, hbw⟩
              case measure => simp [RowKit.intOf]; omega
            | false =>
              rw [hs] at cp hE
              rw [if_neg (by simp)] at hE
              have hA2 : Arr wx Y (enJ l o i (j + 1)) := by rw [← hNO.out j hE]; exact hA1
              clear q1 hE hs ep
              go_wp2
              go_roundw
              case rel => exact ⟨j + 1, hlt, by go_num, hA2, hb1⟩
              case measure => simp [RowKit.intOf]; omega
          · rw [if_neg (fun h => q2 h.1)] at hE
            have hA2 : Arr wx Y (enJ l o i (j + 1)) := by rw [← hNO.out j hE]; exact hA1
            have q2' : ¬ x1 ≥ 0 := q2
            clear q1 hE
            go_wp2
            go_roundw
            case rel => exact ⟨j + 1, hlt, by go_num, hA2, hb1⟩
            case measure => simp [RowKit.intOf]; omega
      · have i1 : ¬ (j : Int) < (n : Int) := by omega
        obtain rfl : j = n := by omega
        have hA2 : Arr wr Y (enS l o i) := hA.congr (fun k _ => hEND.out k)
        have hnu := fun w1 => numbers_any w1 (enS l o i)
        clear hA
        go_upto_region 12 with fail
        refine wp_region_lit ?_
        refine wpList_load_row rfl 93 _ rfl Y rfl 93 (bV (enS l o i)).toArray (0, 0) _ hA2 Try.underlying93 rfl (by rw [bV_size]; exact Try.infoCfs) ?_
        go_wp2_with (first
          | (go_at_call 44; refine (hnu _).mono ?_; rintro e w6 ⟨ra, rn, rc, rfl, hO6, b6⟩)
          | fail)
        go_ret
        exact ⟨_, _, _, rfl, OwnK.down hO6 hb.size, hb.trans (b6.mono hb.size)⟩
end Go.Proofs.Ytbccdkhbplmknaa

/- What Take and Parse answer; and that what was printed is parsed as it was. Math alone. -/
namespace Go.Proofs.Ytbccdkhbplmknaa
open Go.RowKit Go.Lib
set_option linter.unusedSimpArgs false
set_option linter.unusedVariables false

section
variable {nb : List UInt8 → Int} {rsv : List UInt8 → Bool} {l : List Tk}
end

end Go.Proofs.Ytbccdkhbplmknaa

/- Charts, and how they are read of words, as the document's reader does. Math alone. -/
namespace Go.Proofs.Ytbccdkhbplmknaa
open Go.RowKit Go.Lib
set_option linter.unusedVariables false

abbrev Pl := Int × Int
/-- An on: event, guard (is there one, and which), target, sets, place. -/
abbrev OnC := List UInt8 × (Bool × Sx) × List UInt8 × List (List UInt8 × Sx) × Pl
/-- A state but for what lies in it: name, place, all, end, do, undo, where, retries, ons. -/
abbrev HdC := (List UInt8 × Pl) × (Bool × Bool) × (List UInt8 × List UInt8) × (Int × Int) × List OnC
/-- States that lie less than d deep in one another. -/
def St : Nat → Type
  | 0 => Empty
  | d + 1 => HdC × List (St d)
/-- The reader: the words that are left, the place of the first error, the error. -/
abbrev RsC := List Wd × Pl × Int
def wPl (w : Wd) : Pl := (w.2.2.1, w.2.2.2)
section
variable (fin : Pl)
def hereR (r : RsC) : Pl := match r.1 with | [] => fin | w :: _ => wPl w
def failC (e : Int) (p : Pl) (r : RsC) : RsC := if r.2.2 = 0 then (r.1, p, e) else r
end
/-- No words more; without an error behind it there was none ahead. -/
def Goes (r r' : RsC) : Prop := r'.1.length ≤ r.1.length ∧ (r'.2.2 = 0 → r.2.2 = 0)
theorem Goes.refl (r : RsC) : Goes r r := ⟨Nat.le_refl _, id⟩
theorem Goes.trans {a b c : RsC} (h : Goes a b) (k : Goes b c) : Goes a c := ⟨Nat.le_trans k.1 h.1, fun e => h.2 (k.2 e)⟩
section
variable (fin : Pl)
end
end Go.Proofs.Ytbccdkhbplmknaa

/- What the program's levelOf and Reserved do. -/
namespace Go.Proofs.Ytbccdkhbplmknaa
open Go.RowKit Go.Lib
set_option linter.unusedSimpArgs false
set_option linter.unusedVariables false
attribute [local go_sem ↓] Go.wp_at_zero Go.wp_at_succ

end Go.Proofs.Ytbccdkhbplmknaa

/- The expression of a tree. -/
namespace Go.Proofs.Ytbccdkhbplmknaa
open Go.RowKit
set_option linter.unusedSimpArgs false
set_option linter.unusedVariables false

/-- The expression of a tree. -/
def exV : (d : Nat) → T d → Value := fold (fun k n s l =>
  if k = 1 then .iface 132 (.agg #[.int .i64 n]) else if k = 2 then .iface 134 (.agg #[.string s]) else if k = 3 then .iface 136 (.agg #[l.getD 0 .nilIface]) else if k = 4 then .iface 137 (.agg #[l.getD 0 .nilIface])
  else if k = 5 then .iface 139 (.agg #[.string s, l.getD 0 .nilIface, l.getD 1 .nilIface]) else .nilIface)
def exP {d : Nat} (ps : List (T d)) (i : Nat) : Value := (ps.map (exV d)).getD i .nilIface
theorem exV_mk {d : Nat} (k n : Int) (s : ByteArray) (ps : List (T d)) : exV (d + 1) (mkT k n s ps) =
    if k = 1 then .iface 132 (.agg #[.int .i64 n]) else if k = 2 then .iface 134 (.agg #[.string s]) else if k = 3 then .iface 136 (.agg #[exP ps 0]) else if k = 4 then .iface 137 (.agg #[exP ps 0])
    else if k = 5 then .iface 139 (.agg #[.string s, exP ps 0, exP ps 1]) else .nilIface := rfl
theorem exV_form : ∀ (d : Nat) (t : T d), exV d t = .nilIface ∨ ∃ u x, exV d t = .iface u x
  | 0, t => Empty.elim t
  | d + 1, t => by
    obtain ⟨k, n, s, ps, rfl⟩ := T.open t
    rw [exV_mk]
    repeat' split
    all_goals first | exact .inl rfl | exact .inr ⟨_, _, rfl⟩
theorem exP_form {d : Nat} (ps : List (T d)) (i : Nat) : exP ps i = .nilIface ∨ ∃ u x, exP ps i = .iface u x := by
  unfold exP
  rw [List.getD_eq_getElem?_getD, List.getElem?_map]
  cases ps[i]? with
  | none => exact .inl rfl
  | some p => exact exV_form d p
end Go.Proofs.Ytbccdkhbplmknaa

/- What an expression is by itself: topOf. -/
namespace Go.Proofs.Ytbccdkhbplmknaa
open Go.RowKit Go.Lib
set_option linter.unusedSimpArgs false
set_option linter.unusedVariables false
attribute [local go_sem ↓] Go.wp_at_zero Go.wp_at_succ

/-- The slice v holds the values l, from a block's first cell on. -/
def Kids (w : World) (v : Value) (l : List Value) : Prop :=
  (v = .slice none 0 0 ∧ l = []) ∨ ∃ g, v = .slice (some ⟨g, 0, none⟩) l.length l.length ∧ ∀ (i : Nat) (h : i < l.length), w.cell? ⟨g, i, none⟩ = some l[i]
def Ifc (x : Value) : Prop := x = .nilIface ∨ ∃ u y, x = .iface u y

theorem as_lit_lit (v : Value) (w : World) : (Instr.typeAssert (.iface 132 v) 116 132 true).run Try.prog w = .ok (.tuple #[v, .bool true]) w := by kernel_rfl
theorem as_ref_lit (v : Value) (w : World) : (Instr.typeAssert (.iface 134 v) 116 132 true).run Try.prog w = .ok (.tuple #[.agg #[.int .i64 0], .bool false]) w := by kernel_rfl
theorem as_ref_ref (v : Value) (w : World) : (Instr.typeAssert (.iface 134 v) 116 134 true).run Try.prog w = .ok (.tuple #[v, .bool true]) w := by kernel_rfl
theorem as_not_lit (v : Value) (w : World) : (Instr.typeAssert (.iface 136 v) 116 132 true).run Try.prog w = .ok (.tuple #[.agg #[.int .i64 0], .bool false]) w := by kernel_rfl
theorem as_not_ref (v : Value) (w : World) : (Instr.typeAssert (.iface 136 v) 116 134 true).run Try.prog w = .ok (.tuple #[.agg #[.string ⟨#[]⟩], .bool false]) w := by kernel_rfl
theorem as_not_not (v : Value) (w : World) : (Instr.typeAssert (.iface 136 v) 116 136 true).run Try.prog w = .ok (.tuple #[v, .bool true]) w := by kernel_rfl
theorem as_neg_lit (v : Value) (w : World) : (Instr.typeAssert (.iface 137 v) 116 132 true).run Try.prog w = .ok (.tuple #[.agg #[.int .i64 0], .bool false]) w := by kernel_rfl
theorem as_neg_ref (v : Value) (w : World) : (Instr.typeAssert (.iface 137 v) 116 134 true).run Try.prog w = .ok (.tuple #[.agg #[.string ⟨#[]⟩], .bool false]) w := by kernel_rfl
theorem as_neg_not (v : Value) (w : World) : (Instr.typeAssert (.iface 137 v) 116 136 true).run Try.prog w = .ok (.tuple #[.agg #[.nilIface], .bool false]) w := by kernel_rfl
theorem as_neg_neg (v : Value) (w : World) : (Instr.typeAssert (.iface 137 v) 116 137 true).run Try.prog w = .ok (.tuple #[v, .bool true]) w := by kernel_rfl
theorem as_bin_lit (v : Value) (w : World) : (Instr.typeAssert (.iface 139 v) 116 132 true).run Try.prog w = .ok (.tuple #[.agg #[.int .i64 0], .bool false]) w := by kernel_rfl
theorem as_bin_ref (v : Value) (w : World) : (Instr.typeAssert (.iface 139 v) 116 134 true).run Try.prog w = .ok (.tuple #[.agg #[.string ⟨#[]⟩], .bool false]) w := by kernel_rfl
theorem as_bin_not (v : Value) (w : World) : (Instr.typeAssert (.iface 139 v) 116 136 true).run Try.prog w = .ok (.tuple #[.agg #[.nilIface], .bool false]) w := by kernel_rfl
theorem as_bin_neg (v : Value) (w : World) : (Instr.typeAssert (.iface 139 v) 116 137 true).run Try.prog w = .ok (.tuple #[.agg #[.nilIface], .bool false]) w := by kernel_rfl
theorem as_bin_bin (v : Value) (w : World) : (Instr.typeAssert (.iface 139 v) 116 139 true).run Try.prog w = .ok (.tuple #[v, .bool true]) w := by kernel_rfl
attribute [local go_sem] as_lit_lit as_ref_lit as_ref_ref as_not_lit as_not_ref as_not_not as_neg_lit as_neg_ref as_neg_not as_neg_neg as_bin_lit as_bin_ref as_bin_not as_bin_neg as_bin_bin

theorem Kids.below {w w' : World} {v : Value} {l : List Value} {B : Nat} (h : Kids w v l) (hb : Below B w w') (hB : w.heap.size ≤ B) : Kids w' v l := by
  rcases h with h | ⟨g, hv, hc⟩
  · exact .inl h
  · exact .inr ⟨g, hv, fun i hi => by rw [hb.cell (p := ⟨g, i, none⟩) (Nat.lt_of_lt_of_le (World.block_lt_of_cell? w _ (hc i hi)) hB)]; exact hc i hi⟩

end Go.Proofs.Ytbccdkhbplmknaa

/- Rows of expressions that are left to be asked: in memory, popped, grown. -/
namespace Go.Proofs.Ytbccdkhbplmknaa
open Go.RowKit Go.Lib
set_option linter.unusedSimpArgs false
set_option linter.unusedVariables false

theorem fld_i (a b c e : Value) (w : World) : (Instr.field 159 (.agg #[a, b, c, e]) 3).run Try.prog w = .ok e w := by kernel_rfl
abbrev Sg := (d : Nat) × T d
def exS (x : Sg) : Value := exV x.1 x.2
def cntS (x : Sg) : Nat := cnt x.1 x.2
def ClS (x : Sg) : Prop := Cl x.1 x.2
/-- The slice v, of the call's own from block base on, holds the expressions st. -/
def Stk (w : World) (base : Nat) (v : Value) (st : List Sg) : Prop := w.ownsRow base 116 1 v st.length (st.map exS)
theorem own_on {w w' : World} {base e size : Nat} {v : Value} {n : Nat} {xs : List Value} {B : Nat} (h : w.ownsRow base e size v n xs) (hb : Below B w w') (hB : w.heap.size ≤ B) : w'.ownsRow base e size v n xs := by
  refine ⟨h.1, ?_⟩
  rcases h.2 with hn | ⟨g, cap, cur, rfl, hbg, hg, rest⟩
  · exact .inl hn
  · exact .inr ⟨g, cap, cur, rfl, hbg, by rw [hb.block g (by have := (Array.getElem?_eq_some_iff.1 hg).1; omega)]; exact hg, rest⟩
theorem Stk.on {w w' : World} {base : Nat} {v : Value} {st : List Sg} {B : Nat} (h : Stk w base v st) (hb : Below B w w') (hB : w.heap.size ≤ B) : Stk w' base v st := own_on h hb hB
theorem Stk.nil {w : World} {base : Nat} {v : Value} (h : Stk w base v []) : ∃ a cap, v = .slice a 0 cap := by
  rcases h.2 with ⟨h1, _⟩ | ⟨g, cap, cur, rfl, _⟩
  · exact ⟨_, _, h1⟩
  · exact ⟨_, _, rfl⟩
theorem Kids.form {w : World} {sl : Value} {l : List Value} (h : Kids w sl l) : ∃ a, sl = .slice a l.length l.length := by
  rcases h with ⟨rfl, rfl⟩ | ⟨g, rfl, _⟩
  · exact ⟨_, rfl⟩
  · exact ⟨_, rfl⟩
theorem Kids.at {w : World} {a : Option Addr} {m c j : Nat} {l : List Value} (h : Kids w (.slice a m c) l) (hj : j < l.length) : ∃ g, a = some ⟨g, 0, none⟩ ∧ w.cell? ⟨g, j, none⟩ = some l[j] := by
  rcases h with ⟨h1, rfl⟩ | ⟨g, h1, hc⟩
  · simp at hj
  · simp only [Value.slice.injEq] at h1
    exact ⟨g, h1.1, hc j hj⟩
theorem Kids.src {w : World} {sl : Value} {l : List Value} (h : Kids w sl l) (hf : ∀ v ∈ l, Ifc v) : Src Try.prog 1 157 sl l.length l w := by
  rcases h with ⟨rfl, rfl⟩ | ⟨g, rfl, hc⟩
  · exact Src.ofNil w Try.underlying157 0
  · refine Src.ofSlice w Try.underlying157 _ _ _ l (by simp) (fun j u hu => ?_) (fun u hu => ?_)
    · have hj : j < l.length := (List.getElem?_eq_some_iff.1 hu).1
      rw [List.getElem?_eq_getElem hj] at hu
      rw [show (⟨g, 0, none⟩ : Addr).add j = ⟨g, j, none⟩ by unfold Addr.add; split <;> simp_all, hc j hj, hu]
    · rcases hf u hu with rfl | ⟨t, y, rfl⟩ <;> rfl
/-- What is asked of a tree's parts. -/
theorem Cl.parts {d : Nat} {k n : Int} {s : ByteArray} {ps : List (T d)} (h : Cl (d + 1) (mkT k n s ps)) : ps.length ≤ 2 ∧ ∀ p ∈ ps, Cl d p := by
  rcases h with ⟨_, _, h3⟩ | ⟨_, _, h3⟩ | ⟨_, _, _, p, h4, h5⟩ | ⟨_, _, p, q, h3, h4, h5⟩ | ⟨_, _, _, h4⟩
  · simp only at h3; subst h3; simp
  · simp only at h3; subst h3; simp
  · simp only at h4; subst h4; simpa using h5
  · simp only at h3; subst h3; simp [h4, h5]
  · simp only at h4; subst h4; simp
end Go.Proofs.Ytbccdkhbplmknaa

/- The program's reader in memory: its operands, and the signs that wait; what is small. -/
namespace Go.Proofs.Ytbccdkhbplmknaa
open Go.RowKit Go.Lib
set_option linter.unusedSimpArgs false
set_option linter.unusedVariables false
attribute [local go_sem ↓] Go.wp_at_zero Go.wp_at_succ

def exX (x : Sx) : Value := exV x.1 x.2
theorem exX_form (x : Sx) : exX x = .nilIface ∨ ∃ u y, exX x = .iface u y := exV_form x.1 x.2
/-- Nothing has turned but the reader, its two rows, and new blocks; the rows are where they were, or new. -/
structure Fr2 (X : Nat) (vv ww : Value) (w w' : World) (vv' ww' : Value) : Prop where
  size : w.heap.size ≤ w'.heap.size
  block : ∀ k, k < w.heap.size → k ≠ X → vv.ownBlock ≠ some k → ww.ownBlock ≠ some k → w'.heap[k]? = w.heap[k]?
  lv : ∀ g, vv'.ownBlock = some g → vv.ownBlock = some g ∨ w.heap.size ≤ g
  lw : ∀ g, ww'.ownBlock = some g → ww.ownBlock = some g ∨ w.heap.size ≤ g
theorem Fr2.refl (X : Nat) (vv ww : Value) (w : World) : Fr2 X vv ww w w vv ww := ⟨Nat.le_refl _, fun _ _ _ _ _ => rfl, fun _ h => .inl h, fun _ h => .inl h⟩
theorem Fr2.on {X : Nat} {vv ww vv' ww' : Value} {w w1 w2 : World} (h : Fr2 X vv ww w w1 vv' ww') (hb : Below w1.heap.size w1 w2) : Fr2 X vv ww w w2 vv' ww' :=
  ⟨Nat.le_trans h.size hb.size, fun k hk a b c => (hb.block k (Nat.lt_of_lt_of_le hk h.size)).trans (h.block k hk a b c), h.lv, h.lw⟩
theorem Fr2.setX {X : Nat} {vv ww vv' ww' : Value} {w w1 : World} (h : Fr2 X vv ww w w1 vv' ww') (i : Nat) (u : Value) : Fr2 X vv ww w (w1.setCell ⟨X, i, none⟩ u) vv' ww' :=
  ⟨by simpa using h.size, fun k hk a b c => (Below.heap_setCell _ _ _ _ (fun e => a e)).trans (h.block k hk a b c), h.lv, h.lw⟩
theorem Fr2.rows {X : Nat} {vv ww vv' ww' vv2 ww2 : Value} {w w1 : World} (h : Fr2 X vv ww w w1 vv' ww') (hv : vv2.ownBlock = vv'.ownBlock) (hw : ww2.ownBlock = ww'.ownBlock) : Fr2 X vv ww w w1 vv2 ww2 :=
  ⟨h.size, h.block, fun g hg => h.lv g (hv ▸ hg), fun g hg => h.lw g (hw ▸ hg)⟩
theorem Fr2.trans {X : Nat} {vv ww v1 u1 v2 u2 : Value} {w w1 w2 : World} (h : Fr2 X vv ww w w1 v1 u1) (k : Fr2 X v1 u1 w1 w2 v2 u2) : Fr2 X vv ww w w2 v2 u2 := by
  refine ⟨Nat.le_trans h.size k.size, fun j hj a b c => ?_, fun g hg => ?_, fun g hg => ?_⟩
  · rw [k.block j (Nat.lt_of_lt_of_le hj h.size) a (fun e => ?_) (fun e => ?_), h.block j hj a b c]
    · rcases h.lv j e with q | q
      · exact b q
      · omega
    · rcases h.lw j e with q | q
      · exact c q
      · omega
  · rcases k.lv g hg with q | q
    · exact h.lv g q
    · exact .inr (Nat.le_trans h.size q)
  · rcases k.lw g hg with q | q
    · exact h.lw g q
    · exact .inr (Nat.le_trans h.size q)
end Go.Proofs.Ytbccdkhbplmknaa

/- Charts in the program's memory. -/
namespace Go.Proofs.Ytbccdkhbplmknaa
open Go.RowKit Go.Lib
set_option linter.unusedSimpArgs false
set_option linter.unusedVariables false

/-- A text of bytes as a value. -/
def sV (l : List UInt8) : Value := .string ⟨l.toArray⟩
def rSet (ok : Nat → Prop) (w : World) (x : List UInt8 × Sx) (cs : List Value) : Prop := cs = [sV x.1, exX x.2]
theorem kp_set : Kp rSet := fun _ _ _ _ _ _ h _ => h
/-- The guard: nil where there is none. -/
def gdV (g : Bool × Sx) : Value := if g.1 = true then exX g.2 else .nilIface
def onV (o : OnC) (sl : Value) : List Value := [sV o.1, gdV o.2.1, sV o.2.2.1, sl, .int .i64 o.2.2.2.2.1, .int .i64 o.2.2.2.2.2]
def rOn (ok : Nat → Prop) (w : World) (o : OnC) (cs : List Value) : Prop := ∃ sl, cs = onV o sl ∧ RdK ok w 2 (rSet ok w) o.2.2.2.1 sl
theorem kp_on : Kp rOn := fun _ _ _ _ _ _ ⟨sl, h, hr⟩ hk => ⟨sl, h, hr.stay kp_set hk⟩
def hdV (h : HdC) (so si : Value) : List Value := [sV h.1.1, .int .i64 h.1.2.1, .int .i64 h.1.2.2, .bool h.2.1.1, .bool h.2.1.2, sV h.2.2.1.1, sV h.2.2.1.2, .int .i64 h.2.2.2.1.1, .int .i64 h.2.2.2.1.2, so, si]
def rSt : (d : Nat) → (Nat → Prop) → World → St d → List Value → Prop
  | 0, _, _, t, _ => Empty.elim t
  | d + 1, ok, w, t, cs => ∃ so si, cs = hdV t.1 so si ∧ RdK ok w 6 (rOn ok w) t.1.2.2.2.2 so ∧ RdK ok w 11 (rSt d ok w) t.2 si
theorem kp_st : ∀ d, Kp (rSt d)
  | 0 => fun _ _ _ _ x _ _ _ => Empty.elim x
  | d + 1 => fun _ _ _ _ _ _ ⟨so, si, h, h1, h2⟩ hk => ⟨so, si, h, h1.stay kp_on hk, h2.stay (kp_st d) hk⟩
def varV (x : List UInt8 × Int × Pl) : List Value := [sV x.1, .int .i64 x.2.1, .int .i64 x.2.2.1, .int .i64 x.2.2.2]
def rVar (ok : Nat → Prop) (w : World) (x : List UInt8 × Int × Pl) (cs : List Value) : Prop := cs = varV x
theorem kp_var : Kp rVar := fun _ _ _ _ _ _ h _ => h
/-- A chart whose states lie less than d deep. -/
abbrev ChG (d : Nat) := (List UInt8 × Pl) × Int × List (List UInt8 × Int × Pl) × List (St d)
def RdC (ok : Nat → Prop) (w : World) (d : Nat) (c : ChG d) (v : Value) : Prop :=
  ∃ sv ss, v = .agg #[sV c.1.1, .int .i64 c.2.1, .int .i64 c.1.2.1, .int .i64 c.1.2.2, sv, ss] ∧ RdK ok w 4 (rVar ok w) c.2.2.1 sv ∧ RdK ok w 11 (rSt d ok w) c.2.2.2 ss
theorem RdC.keep {ok ok' : Nat → Prop} {w w' : World} {d : Nat} {c : ChG d} {v : Value} (h : RdC ok w d c v) (hk : ∀ b, ok b → b < w.heap.size → ok' b ∧ w'.heap[b]? = w.heap[b]?) : RdC ok' w' d c v := by
  obtain ⟨sv, ss, h1, h2, h3⟩ := h
  exact ⟨sv, ss, h1, h2.stay kp_var hk, h3.stay (kp_st d) hk⟩
end Go.Proofs.Ytbccdkhbplmknaa
