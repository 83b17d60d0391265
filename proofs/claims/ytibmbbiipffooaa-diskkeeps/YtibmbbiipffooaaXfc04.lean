import Derived.Shelf.SlIterI.Nil
import Derived.Shelf.SortM.Plain
import Derived.Shelf.SortM.SortNone
import Derived.Test.YtibmbbiipffooaaRows
import Derived.Test.YtibmbbiipffooaaXfc03

/- Contracts of generic functions of the library at this program. -/
namespace Go.Proofs.Ytibmbbiipffooaa
open Go.Shelf
set_option linter.unusedVariables false

def renKy : Ren := { f := fun x => match x with | 7 => 31 | 10 => 43 | n => n, t := fun x => match x with | 23 => 46 | 26 => 3 | 3 => 62 | 28 => 59 | 0 => 0 | 27 => 58 | 33 => 69 | 4 => 4 | n => n, g := fun x => x }
theorem laysKy : SlLaysZI.n7 Try.prog renKy :=
  { mixed := by kernel_rfl, f7 := ⟨ "maps.Keys[map[int]tumbrel/disk.content,int,tumbrel/disk.content]", by decide, Try.func31.trans (congrArg some (by kernel_rfl))⟩, f10 := ⟨ "maps.Keys[map[int]tumbrel/disk.content,int,tumbrel/disk.content]$1", by decide, Try.func43.trans (congrArg some (by kernel_rfl))⟩, t0 := Try.underlying0, a0 := Try.isAgg0, z0 := Try.sizeOf0, v0 := Try.zeroValue0, t4 := Try.underlying4, a4 := Try.isAgg4, z4 := Try.sizeOf4, v4 := Try.zeroValue4, t23 := Try.underlying46, a23 := Try.isAgg46, z23 := Try.sizeOf46, v23 := Try.zeroValue46, t26 := Try.underlying3, a26 := Try.isAgg3, z26 := Try.sizeOf3, v26 := Try.zeroValue3, t27 := Try.underlying58, a27 := Try.isAgg58, z27 := Try.sizeOf58, v27 := Try.zeroValue58, t28 := Try.underlying59, a28 := Try.isAgg59, z28 := Try.sizeOf59, v28 := Try.zeroValue59, t33 := Try.underlying69, a33 := Try.isAgg69, z33 := Try.sizeOf69, v33 := Try.zeroValue69 }
def renSd : Ren := { f := fun x => match x with | 6 => 30 | 8 => 41 | 9 => 42 | 11 => 44 | 13 => 46 | 12 => 45 | 23 => 56 | 24 => 57 | 14 => 47 | 15 => 48 | 16 => 49 | 17 => 50 | 18 => 51 | 19 => 52 | 20 => 53 | 21 => 54 | 22 => 55 | 25 => 58 | 26 => 59 | 27 => 60 | 28 => 61 | 29 => 62 | 30 => 63 | 31 => 64 | n => n, t := fun x => match x with | 26 => 3 | 28 => 59 | 24 => 31 | 0 => 0 | 3 => 3 | 37 => 74 | 48 => 85 | 50 => 87 | 4 => 4 | 40 => 77 | 39 => 76 | 45 => 82 | 5 => 5 | 9 => 9 | 51 => 88 | 55 => 92 | 57 => 94 | 58 => 95 | 33 => 69 | n => n, g := fun x => x }
theorem laysSd : SlLaysZI.n6 Try.prog renSd :=
  { mixed := by kernel_rfl, f6 := ⟨ "slices.Sorted[int]", by decide, Try.func30.trans (congrArg some (by kernel_rfl))⟩, f8 := ⟨ "slices.Collect[int]", by decide, Try.func41.trans (congrArg some (by kernel_rfl))⟩, f11 := ⟨ "slices.AppendSeq[[]int,int]", by decide, Try.func44.trans (congrArg some (by kernel_rfl))⟩, t0 := Try.underlying0, a0 := Try.isAgg0, z0 := Try.sizeOf0, v0 := Try.zeroValue0, t24 := Try.underlying31, a24 := Try.isAgg31, z24 := Try.sizeOf31, v24 := Try.zeroValue31, t26 := Try.underlying3, a26 := Try.isAgg3, z26 := Try.sizeOf3, v26 := Try.zeroValue3, t28 := Try.underlying59, a28 := Try.isAgg59, z28 := Try.sizeOf59, v28 := Try.zeroValue59, i26 := by kernel_rfl }
def renSo : Ren := { f := fun x => match x with | 5 => 42 | 8 => 46 | 7 => 45 | 19 => 56 | 20 => 57 | 10 => 47 | 11 => 48 | 12 => 49 | 13 => 50 | 14 => 51 | 15 => 52 | 16 => 53 | 17 => 54 | 18 => 55 | 30 => 58 | 31 => 59 | 32 => 60 | 33 => 61 | 34 => 62 | 35 => 63 | 40 => 64 | n => n, t := fun x => match x with | 23 => 31 | 25 => 3 | 3 => 3 | 32 => 74 | 22 => 31 | 0 => 0 | 44 => 85 | 46 => 87 | 4 => 4 | 36 => 77 | 35 => 76 | 41 => 82 | 5 => 5 | 9 => 9 | 53 => 88 | 57 => 92 | 63 => 94 | 64 => 95 | n => n, g := fun x => x }
theorem laysSo : SlLaysM.n5 Try.prog renSo :=
  { mixed := by kernel_rfl, f5 := ⟨ "slices.Sort[[]int,int]", by decide, Try.func42.trans (congrArg some (by kernel_rfl))⟩, f7 := ⟨ "slices.pdqsortOrdered[int]", by decide, Try.func45.trans (congrArg some (by kernel_rfl))⟩, f8 := Try.func46.trans (congrArg some (by kernel_rfl)), f10 := ⟨ "slices.insertionSortOrdered[int]", by decide, Try.func47.trans (congrArg some (by kernel_rfl))⟩, f11 := ⟨ "slices.heapSortOrdered[int]", by decide, Try.func48.trans (congrArg some (by kernel_rfl))⟩, f12 := ⟨ "slices.breakPatternsOrdered[int]", by decide, Try.func49.trans (congrArg some (by kernel_rfl))⟩, f13 := ⟨ "slices.choosePivotOrdered[int]", by decide, Try.func50.trans (congrArg some (by kernel_rfl))⟩, f14 := ⟨ "slices.reverseRangeOrdered[int]", by decide, Try.func51.trans (congrArg some (by kernel_rfl))⟩, f15 := ⟨ "slices.partialInsertionSortOrdered[int]", by decide, Try.func52.trans (congrArg some (by kernel_rfl))⟩, f16 := ⟨ "cmp.Less[int]", by decide, Try.func53.trans (congrArg some (by kernel_rfl))⟩, f17 := ⟨ "slices.partitionEqualOrdered[int]", by decide, Try.func54.trans (congrArg some (by kernel_rfl))⟩, f18 := ⟨ "slices.partitionOrdered[int]", by decide, Try.func55.trans (congrArg some (by kernel_rfl))⟩, f19 := Try.func56.trans (congrArg some (by kernel_rfl)), f20 := Try.func57.trans (congrArg some (by kernel_rfl)), f30 := ⟨ "slices.siftDownOrdered[int]", by decide, Try.func58.trans (congrArg some (by kernel_rfl))⟩, f31 := Try.func59.trans (congrArg some (by kernel_rfl)), f32 := Try.func60.trans (congrArg some (by kernel_rfl)), f33 := ⟨ "slices.medianAdjacentOrdered[int]", by decide, Try.func61.trans (congrArg some (by kernel_rfl))⟩, f34 := ⟨ "slices.medianOrdered[int]", by decide, Try.func62.trans (congrArg some (by kernel_rfl))⟩, f35 := ⟨ "cmp.isNaN[int]", by decide, Try.func63.trans (congrArg some (by kernel_rfl))⟩, f40 := ⟨ "slices.order2Ordered[int]", by decide, Try.func64.trans (congrArg some (by kernel_rfl))⟩, t0 := Try.underlying0, a0 := Try.isAgg0, z0 := Try.sizeOf0, v0 := Try.zeroValue0, t3 := Try.underlying3, a3 := Try.isAgg3, z3 := Try.sizeOf3, v3 := Try.zeroValue3, t4 := Try.underlying4, a4 := Try.isAgg4, z4 := Try.sizeOf4, v4 := Try.zeroValue4, t5 := Try.underlying5, a5 := Try.isAgg5, z5 := Try.sizeOf5, v5 := Try.zeroValue5, t9 := Try.underlying9, a9 := Try.isAgg9, z9 := Try.sizeOf9, v9 := Try.zeroValue9, t22 := Try.underlying31, a22 := Try.isAgg31, z22 := Try.sizeOf31, v22 := Try.zeroValue31, t23 := Try.underlying31, a23 := Try.isAgg31, z23 := Try.sizeOf31, v23 := Try.zeroValue31, t25 := Try.underlying3, a25 := Try.isAgg3, z25 := Try.sizeOf3, v25 := Try.zeroValue3, t32 := Try.underlying74, a32 := Try.isAgg74, z32 := Try.sizeOf74, v32 := Try.zeroValue74, t35 := Try.underlying76, a35 := Try.isAgg76, z35 := Try.sizeOf76, v35 := Try.zeroValue76, t36 := Try.underlying77, a36 := Try.isAgg77, z36 := Try.sizeOf77, v36 := Try.zeroValue77, t41 := Try.underlying82, a41 := Try.isAgg82, z41 := Try.sizeOf82, v41 := Try.zeroValue82, t44 := Try.underlying85, a44 := Try.isAgg85, z44 := Try.sizeOf85, v44 := Try.zeroValue85, t46 := Try.underlying87, a46 := Try.isAgg87, z46 := Try.sizeOf87, v46 := Try.zeroValue87, t53 := Try.underlying88, a53 := Try.isAgg88, z53 := Try.sizeOf88, v53 := Try.zeroValue88, t57 := Try.underlying92, a57 := Try.isAgg92, z57 := Try.sizeOf92, v57 := Try.zeroValue92, t63 := Try.underlying94, a63 := Try.isAgg94, z63 := Try.sizeOf94, v63 := Try.zeroValue94, t64 := Try.underlying95, a64 := Try.isAgg95, z64 := Try.sizeOf95, v64 := Try.zeroValue95 }
end Go.Proofs.Ytibmbbiipffooaa

/- The program's disk: Segments. -/
namespace Go.Proofs.Ytibmbbiipffooaa
open Go.RowKit Go.Lib Go.Maps Go.Sort Go.Shelf
set_option linter.unusedSimpArgs false
set_option linter.unusedVariables false

theorem sorts_any (m : Nat) : AnyZI.SortsIn Try.prog renSd Fence.wide m :=
  ⟨fun blk off cap ss W hH hblk hsz => callsIn_wide.2 (AnyM.slices_Sort_int laysSo blk off cap ss W hH hblk hsz),
   fun p cap W => callsIn_wide.2 (AnyM.slices_Sort_int_none laysSo p cap W)⟩
theorem keys_esD (E : List (Int × Sv)) : intKeys (DataW.map (esD (esV E))) = E.map (·.1) := by
  show (esD (esV E)).map (fun p => Go.intOf p.1) = _
  unfold esD esV
  rw [List.map_map, List.map_map]
  exact List.map_congr_left (fun x _ => rfl)
theorem sort_keys {E : List (Int × Sv)} (hE : Ris E) {ss : List Int} (h : ss.Perm (E.map (·.1))) : ss.mergeSort (fun x y => decide (x ≤ y)) = E.map (·.1) := by
  refine List.Perm.eq_of_pairwise (le := fun x y => x ≤ y) (fun a b _ _ h1 h2 => by omega) ?_ ?_ ((List.mergeSort_perm ss _).trans h)
  · have := List.pairwise_mergeSort (le := fun x y : Int => decide (x ≤ y)) (fun a b c h1 h2 => by simp at *; omega) (fun a b => by simp; omega) ss
    exact this.imp (fun h => of_decide_eq_true h)
  · exact List.pairwise_map.2 (hE.imp (fun h => Int.le_of_lt h))
set_option maxRecDepth 100000 in
set_option maxHeartbeats 4000000 in
theorem dsegs_any {w : World} {X : Nat} {F : Nat → Prop} {d : Dk} (h0 : PD w X F d) (hl : d.L.length ≤ 100000) :
    Calls Try.prog 11 #[.pointer (some ⟨X, 0, none⟩)] w fun e w' => (∃ v, e = .returned v ∧ w'.ownsRow w.heap.size 3 1 v d.L.length ((d.L.map (·.1)).map (Value.int .i64))) ∧ Below w.heap.size w w' := by
  obtain ⟨mv, E, fz, g1, g2, g3, g4, g5⟩ := h0
  obtain ⟨c0, f0⟩ := g4 0 _ rfl
  have hlE : E.length = d.L.length := by rw [← g2]; simp [mmE]
  have hkk : d.L.map (·.1) = E.map (·.1) := by rw [← g2]; simp [mmE]
  rw [hkk, ← hlE]
  rw [← hlE] at hl
  have hr := g3.r
  have hm := g3.m
  clear g2 g3 g4 g5 hkk hlE
  refine (callsIn_wide (n := 6)).1 ?_
  have hseq : SeqGives Fence.wide 2 Try.prog 43 #[.pointer (some ⟨w.heap.size, 0, none⟩)] encZ (fun ss => ss.Perm (E.map (·.1))) E.length (w.alloc (.cells #[.map mv] 46)) := by
    rcases hm with ⟨rfl, e⟩ | ⟨b, rfl, hown⟩
    · have hE : E = [] := List.eq_nil_of_length_eq_zero (by have := congrArg List.length e; simpa [esV] using this)
      subst hE
      have := AnyZI.keys_gives_nil (ρ := renKy) { laysKy with } Fence.wide 2 trivial rfl w.heap.size (w.alloc (.cells #[.map none] 46)) (by simp) (by simp)
      intro l J W hW hJ hY h0
      refine (this l J W hW hJ hY h0).mono ?_
      rintro e w' ⟨h1, xs, h2, h3⟩
      exact ⟨h1, xs, by rw [h2]; simp, h3⟩
    · have hbl := hown.lt
      have := AnyZI.keys_gives (ρ := renKy) { laysKy with } Fence.wide 2 trivial rfl (by omega) w.heap.size b (esV E).length (.map (esD (esV E))) (w.alloc (.cells #[.map (some b)] 46)) (R := hR) (by simp) (by simp) (by
        obtain ⟨es, clock, hb, Ft, hs, hD⟩ := hown
        exact ⟨es, clock, (Below.heap_alloc _ _ b hbl).trans hb, Ft, hs, hD⟩)
      rw [keys_esD] at this
      have e2 : Maps.size (DataW.map (esD (esV E))) = E.length := by simp [Maps.size, esD, esV]
      rw [e2] at this
      exact this
  have cK : ∀ mb W, CallsIn Fence.wide 5 Try.prog 31 #[.map mb] W fun e w' => e = .returned (.func (.func 43) #[] #[.pointer (some ⟨W.heap.size, 0, none⟩)]) ∧ w' = W.alloc (.cells #[.map mb] 46) := fun mb W => AnyZI.keys_in laysKy Fence.wide 5 trivial rfl mb W
  have cS := AnyZI.sorted_in laysSd Fence.wide 5 trivial trivial trivial trivial rfl (by omega) (sorts_any _) (enters_of Try.func42 (by kernel_rfl) rfl) 43 #[.pointer (some ⟨w.heap.size, 0, none⟩)] trivial (enters_of Try.func43 (by kernel_rfl) rfl) _ _ (by unfold maxLen; omega) (by omega) _ hseq
  change CallsIn _ _ Try.prog 30 _ _ _ at cS
  have hfK : Fence.wide.fn 31 := trivial
  have hfS : Fence.wide.fn 30 := trivial
  refine callsIn_of_wp Try.func11 rfl trivial ?_ rfl
  simp only [Try.ntmps11, List.size_toArray, List.length_cons, List.length_nil, Nat.reduceAdd, Nat.reduceSub, Array.replicate_succ, Array.replicate_zero, List.push_toArray, List.append_toArray, List.nil_append, List.cons_append]
  gi_wp2_with (first
    | (gi_at_call 31; refine (cK _ _).mono ?_; rintro e w' ⟨rfl, rfl⟩)
    | (gi_at_call 30; refine cS.mono ?_; rintro e w' ⟨v, ss, rfl, hS, hrow, hnil, hb⟩))
  go_ret
  refine ⟨⟨v, rfl, ?_⟩, ((Below.refl _ w).alloc (Nat.le_refl _) _).trans (hb.mono (by simp))⟩
  rw [sort_keys hr hS] at hrow
  have hlen : ss.length = E.length := by have := hS.length_eq; simpa using this
  rw [hlen] at hrow
  exact ownsRow_base_a hrow (by simp)
end Go.Proofs.Ytibmbbiipffooaa

/- Scripts of calls on a disk, as they come in; Few. -/
namespace Go.Proofs.Ytibmbbiipffooaa
open Go.RowKit Go.Lib Go.Maps
set_option linter.unusedSimpArgs false
set_option linter.unusedVariables false
attribute [local go_sem ↓] Go.wp_at_zero Go.wp_at_succ

structure OpM where
  kind : Int
  a : Int
  b : Int
  y : Int
  bs : List Int
  ls : List Int
def rIntD : Int → List Value → Prop := fun x cs => cs = [.int .i64 x]
abbrev RdI (w : World) (l : List Int) (v : Value) : Prop := RdK (fun _ => True) w 1 rIntD l v
def rOp (w : World) : OpM → List Value → Prop := fun x cs => ∃ bv lv, cs = [.int .i64 x.kind, .int .i64 x.a, .int .i64 x.b, .int .u8 x.y, bv, lv] ∧ Rd w bv x.bs ∧ RdI w x.ls lv
abbrev RdO (w : World) (l : List OpM) (v : Value) : Prop := RdK (fun _ => True) w 6 (rOp w) l v
structure WfO (x : OpM) : Prop where
  a : (Lit.int .i64 x.a).wf = true
  b : (Lit.int .i64 x.b).wf = true
  y : 0 ≤ x.y ∧ x.y ≤ 255
  bs : ∀ b ∈ x.bs, 0 ≤ b ∧ b ≤ 255
  bl : x.bs.length ≤ 140737488351232
  ll : x.ls.length ≤ 140737488351232
theorem RdI.on {w w' : World} {l : List Int} {v : Value} (h : RdI w l v) (hb : Below w.heap.size w w') : RdI w' l v := RdK.keep h (fun _ _ _ h => h) (fun b _ hlt => ⟨trivial, hb.block b hlt⟩)
theorem rOp_on {w w' : World} {x : OpM} {cs : List Value} (h : rOp w x cs) (hb : Below w.heap.size w w') : rOp w' x cs := by
  obtain ⟨bv, lv, h1, h2, h3⟩ := h
  exact ⟨bv, lv, h1, rd_on h2 hb, h3.on hb⟩
theorem RdO.on {w w' : World} {l : List OpM} {v : Value} (h : RdO w l v) (hb : Below w.heap.size w w') : RdO w' l v := RdK.keep h (fun _ _ _ h => rOp_on h hb) (fun b _ hlt => ⟨trivial, hb.block b hlt⟩)
/-- Few: from call i on, n bytes counted. -/
def fewL : Nat → Nat → List OpM → Bool
  | _, _, [] => true
  | i, n, x :: r => if 150 ≤ i ∨ 50000 < n + x.bs.length ∨ 100 < x.ls.length then false else fewL (i + 1) (n + x.bs.length) r
def smO (l : List OpM) (j : Nat) : Nat := ((l.take j).map fun x => x.bs.length).sum
theorem smO_succ {l : List OpM} {j : Nat} (h : j < l.length) : smO l (j + 1) = smO l j + (l[j]).bs.length := by
  unfold smO
  rw [List.take_succ_eq_append_getElem h, List.map_append, List.sum_append]
  simp
theorem few_at {l : List OpM} {j : Nat} (h : j < l.length) : fewL j (smO l j) (l.drop j) = if 150 ≤ j ∨ 50000 < smO l (j + 1) ∨ 100 < (l[j]).ls.length then false else fewL (j + 1) (smO l (j + 1)) (l.drop (j + 1)) := by
  rw [List.drop_eq_getElem_cons h]
  conv => lhs; unfold fewL
  rw [← smO_succ h]
theorem few_all {l : List OpM} (h : fewL 0 0 l = true) : ∀ j, (hj : j < l.length) → j < 150 ∧ smO l (j + 1) ≤ 50000 ∧ (l[j]).ls.length ≤ 100 ∧ fewL (j + 1) (smO l (j + 1)) (l.drop (j + 1)) = true := by
  intro j
  induction j with
  | zero =>
    intro hj
    have e : fewL 0 0 l = fewL 0 (smO l 0) (l.drop 0) := by simp [smO]
    rw [e, few_at hj] at h
    split at h
    · cases h
    · rename_i hc
      exact ⟨by omega, by omega, by omega, h⟩
  | succ k ih =>
    intro hj
    obtain ⟨_, _, _, h4⟩ := ih (by omega)
    rw [few_at hj] at h4
    split at h4
    · cases h4
    · rename_i hc
      exact ⟨by omega, by omega, by omega, h4⟩
theorem few_len {l : List OpM} (h : fewL 0 0 l = true) : l.length ≤ 150 := by
  rcases Nat.lt_or_ge 150 l.length with hl | hl
  · have := (few_all h 150 hl).1
    omega
  · exact hl
set_option maxRecDepth 100000 in
set_option maxHeartbeats 1000000 in
theorem few_any {w : World} {l : List OpM} {v : Value} (h : RdO w l v) (hw : ∀ x ∈ l, WfO x) : Calls Try.prog 6 #[v] w fun e w' => e = .returned (.bool (fewL 0 0 l)) ∧ w = w' := by
  obtain ⟨a, c, rfl, hlc, hcm, hcell⟩ := h
  unfold maxLen at hcm
  obtain ⟨R, hR⟩ : ∃ R, fewL 0 0 l = R := ⟨_, rfl⟩
  rw [hR]
  have HL := hideD hcell
  have HW := hideD hw
  have H0 := hideD (show fewL 0 (smO l 0) (l.drop 0) = R from hR)
  clear hcell hw hR
  go_enter Try.func6, Try.ntmps6
  go_wp2
  go_loopw [3, 7] (fun t ix wr => ∃ (j : Nat), j ≤ l.length ∧ ix = .int .i64 (j : Int) ∧ t = .int .i64 (smO l j : Int) ∧ smO l j ≤ 50000 ∧ w = wr ∧ Hid (fewL j (smO l j) (l.drop j) = R)) (fun _ ix _ => l.length - (RowKit.intOf ix).toNat)
  case atStart => exact ⟨0, Nat.zero_le _, rfl, by simp [smO], by simp [smO], rfl, H0⟩
  case round =>
    obtain ⟨j, hj, rfl, rfl, hsm, rfl, HF⟩ := hrel
    clear H0
    by_cases hlt : j < l.length
    · obtain ⟨b, off, cs, ha, _, hbl, _, ⟨bv, lv, rfl, h4, h5⟩, hcs⟩ := HL.out j hlt
      subst ha
      obtain ⟨ba, bc, rfl, _⟩ := h4
      obtain ⟨la, lc, rfl, _⟩ := h5.form
      have c4 := hcs 4 _ rfl
      have c5 := hcs 5 _ rfl
      have hwf := HW.out _ (List.getElem_mem hlt)
      have hfe := HF.out
      rw [few_at hlt] at hfe
      have hs1 := smO_succ hlt
      have b1 := hwf.bl
      have b2 := hwf.ll
      obtain ⟨bl, hbl'⟩ : ∃ x, (l[j]).bs.length = x := ⟨_, rfl⟩
      obtain ⟨ll, hll'⟩ : ∃ x, (l[j]).ls.length = x := ⟨_, rfl⟩
      rw [hbl'] at c4 hs1 b1
      rw [hll'] at c5 hfe b2
      have k1 : (j : Int) < (l.length : Int) := by omega
      have k2 : (0 : Int) ≤ (j : Int) := by omega
      obtain ⟨s1, hs1'⟩ : ∃ x, smO l (j + 1) = x := ⟨_, rfl⟩
      rw [hs1'] at hfe hs1
      have hwr := hideD (show wrap64 ((smO l j : Int) + (bl : Int)) = (s1 : Int) by unfold wrap64; omega)
      have HFE := hideD hfe
      have HS1 := hideD hs1'
      have HS2 := hideD hs1
      have HSM := hideD hsm
      clear hwf HF hfe hs1' hbl' hll' hcs hbl hs1 hsm b1 b2
      by_cases g1 : 150 ≤ j
      · have i1 : (j : Int) ≥ 150 := by omega
        replace hwr := hwr.out
        go_wp2
        go_ret
        have := HFE.out
        rw [if_pos (.inl g1)] at this
        exact ⟨by rw [← this]; rfl, rfl⟩
      have i1 : ¬ (j : Int) ≥ 150 := by omega
      by_cases g2 : 50000 < s1
      · have i2 : (s1 : Int) > 50000 := by omega
        replace hwr := hwr.out
        go_wp2
        go_ret
        have := HFE.out
        rw [if_pos (.inr (.inl g2))] at this
        exact ⟨by rw [← this]; rfl, rfl⟩
      have i2 : ¬ (s1 : Int) > 50000 := by omega
      by_cases g3 : 100 < ll
      · have i3 : (ll : Int) > 100 := by omega
        replace hwr := hwr.out
        go_wp2
        go_ret
        have := HFE.out
        rw [if_pos (.inr (.inr g3))] at this
        exact ⟨by rw [← this]; rfl, rfl⟩
      have i3 : ¬ (ll : Int) > 100 := by omega
      have HWR := hwr
      replace hwr := hwr.out
      go_wp2
      clear hwr
      go_roundw
      case rel =>
        have h9 := HFE.out
        rw [if_neg (by omega)] at h9
        refine ⟨j + 1, hlt, by go_num, ?_, ?_, ?_, ?_⟩
        · rw [HS1.out, HWR.out]
        · rw [HS1.out]
          omega
        · first | rfl | trivial
        · rw [HS1.out]
          exact h9
      case measure => simp [RowKit.intOf]; omega
    · have k1 : ¬ (j : Int) < (l.length : Int) := by omega
      have hR := HF.out
      have e : l.drop j = [] := List.drop_eq_nil_of_le (by omega)
      rw [e] at hR
      have hR2 : true = R := by rw [← hR]; rfl
      subst hR2
      clear HL HW HF hR e
      go_wp2
      go_ret
      exact ⟨rfl, rfl⟩

/-- What a crash leaves of segments, of which the first is number i. -/
def crL (kp : Nat → Int) : Nat → List (Int × Sm) → List (Int × Sm)
  | _, [] => []
  | i, x :: r => if kpN x.2 (kp i) = 0 then crL kp (i + 1) r else (x.1, (x.2.1.take (kpN x.2 (kp i)), kpN x.2 (kp i))) :: crL kp (i + 1) r
def kpA (ls : List Int) (i : Nat) : Int := if ls.length = 0 then 0 else ls.getD (i % ls.length) 0
def crD (d : Dk) (ls : List Int) : Dk := ⟨crL (kpA ls) 0 d.L, d.room, -1, false⟩
theorem crL_cons (kp : Nat → Int) (i : Nat) (x : Int × Sm) (r : List (Int × Sm)) : crL kp i (x :: r) = if kpN x.2 (kp i) = 0 then crL kp (i + 1) r else (x.1, (x.2.1.take (kpN x.2 (kp i)), kpN x.2 (kp i))) :: crL kp (i + 1) r := rfl
theorem usM_app2 (a b : List (Int × Sm)) : usM (a ++ b) = usM a + usM b := by simp [usM]
theorem crL_app (kp : Nat → Int) : ∀ (l m : List (Int × Sm)) (i : Nat), crL kp i (l ++ m) = crL kp i l ++ crL kp (i + l.length) m
  | [], m, i => by simp [crL]
  | x :: r, m, i => by
    have ih := crL_app kp r m (i + 1)
    have e : i + 1 + r.length = i + (x :: r).length := by simp; omega
    rw [List.cons_append, crL_cons, crL_cons, ih, e]
    split
    · rfl
    · rfl
theorem crL_mem {kp : Nat → Int} : ∀ {l : List (Int × Sm)} {i : Nat} {a : Int × Sm}, a ∈ crL kp i l → ∃ y ∈ l, a.1 = y.1
  | [], i, a, h => by simp [crL] at h
  | x :: r, i, a, h => by
    rw [crL_cons] at h
    split at h
    · obtain ⟨y, h1, h2⟩ := crL_mem h
      exact ⟨y, List.mem_cons_of_mem _ h1, h2⟩
    · rcases List.mem_cons.1 h with rfl | h
      · exact ⟨x, List.mem_cons_self, rfl⟩
      · obtain ⟨y, h1, h2⟩ := crL_mem h
        exact ⟨y, List.mem_cons_of_mem _ h1, h2⟩
theorem crL_us {kp : Nat → Int} : ∀ {l : List (Int × Sm)} (i : Nat), (∀ x ∈ l, x.2.2 ≤ x.2.1.length) → usM (crL kp i l) ≤ usM l ∧ (crL kp i l).length ≤ l.length
  | [], i, _ => by simp [crL]
  | x :: r, i, h => by
    obtain ⟨h1, h2⟩ := crL_us (kp := kp) (l := r) (i + 1) (fun y hy => h y (List.mem_cons_of_mem _ hy))
    have hx := kpN_le (kp i) (h x List.mem_cons_self)
    rw [crL_cons]
    split
    · rw [usM_cons]
      simp only [List.length_cons]
      omega
    · rw [usM_cons, usM_cons]
      simp only [List.length_cons, List.length_take]
      omega
theorem lk_mid {A R : List (Int × Sm)} {x : Int × Sm} (hA : ∀ a ∈ A, a.1 < x.1) : lk x.1 (A ++ x :: R) = some x.2 := by
  induction A with
  | nil => simp [lk]
  | cons a A ih =>
    have := hA a List.mem_cons_self
    rw [List.cons_append]
    unfold lk
    rw [if_neg (by omega)]
    exact ih (fun b hb => hA b (List.mem_cons_of_mem _ hb))
theorem dl_mid {A R : List (Int × Sm)} {x : Int × Sm} (hA : ∀ a ∈ A, a.1 < x.1) (hR : ∀ a ∈ R, x.1 < a.1) : dl x.1 (A ++ x :: R) = A ++ R := by
  unfold dl
  rw [List.filter_append, List.filter_cons]
  simp only [decide_true, Bool.not_true]
  congr 1
  · exact List.filter_eq_self.2 (fun a ha => by have := hA a ha; simp; omega)
  · exact List.filter_eq_self.2 (fun a ha => by have := hR a ha; simp; omega)
theorem pt_mid {A R : List (Int × Sm)} {x : Int × Sm} {b : Sm} (hA : ∀ a ∈ A, a.1 < x.1) : pt x.1 b (A ++ x :: R) = A ++ (x.1, b) :: R := by
  induction A with
  | nil =>
    simp only [List.nil_append]
    unfold pt
    rw [if_neg (by omega), if_pos rfl]
  | cons a A ih =>
    have := hA a List.mem_cons_self
    rw [List.cons_append]
    unfold pt
    rw [if_neg (by omega), if_neg (by omega), ih (fun b hb => hA b (List.mem_cons_of_mem _ hb))]
    rfl
/-- The segments behind j steps of a crash. -/
def crS (kp : Nat → Int) (L : List (Int × Sm)) (j : Nat) : List (Int × Sm) := crL kp 0 (L.take j) ++ L.drop j
theorem ris_split {L : List (Int × Sm)} (h : Ris L) {j : Nat} (hj : j < L.length) : (∀ a ∈ L.take j, a.1 < (L[j]).1) ∧ ∀ a ∈ L.drop (j + 1), (L[j]).1 < a.1 := by
  have e : L = L.take j ++ L[j] :: L.drop (j + 1) := by rw [← List.drop_eq_getElem_cons hj, List.take_append_drop]
  have h2 : Ris (L.take j ++ L[j] :: L.drop (j + 1)) := by rw [← e]; exact h
  obtain ⟨_, h3, h4⟩ := List.pairwise_append.1 h2
  exact ⟨fun a ha => h4 a ha _ List.mem_cons_self, fun a ha => (List.pairwise_cons.1 h3).1 a ha⟩
theorem crS_step {kp : Nat → Int} {d : Dk} {L : List (Int × Sm)} (h : Ris L) {j : Nat} (hj : j < L.length) : lk (L[j]).1 (crS kp L j) = some (L[j]).2 ∧ cutD { d with L := crS kp L j } (L[j]).1 (kp j) = { d with L := crS kp L (j + 1) } := by
  obtain ⟨h1, h2⟩ := ris_split h hj
  have hA : ∀ a ∈ crL kp 0 (L.take j), a.1 < (L[j]).1 := fun a ha => by
    obtain ⟨y, hy, e⟩ := crL_mem ha
    rw [e]
    exact h1 y hy
  have e0 : crS kp L j = crL kp 0 (L.take j) ++ L[j] :: L.drop (j + 1) := by
    unfold crS
    rw [List.drop_eq_getElem_cons hj]
  have e1 : crS kp L (j + 1) = crL kp 0 (L.take j) ++ crL kp j [L[j]] ++ L.drop (j + 1) := by
    unfold crS
    rw [List.take_succ_eq_append_getElem hj, crL_app, List.length_take, Nat.zero_add, Nat.min_eq_left (Nat.le_of_lt hj)]
  refine ⟨by rw [e0]; exact lk_mid hA, ?_⟩
  unfold cutD
  simp only
  rw [e0, lk_mid hA, e1, crL_cons]
  simp only
  split
  · rw [dl_mid hA h2]
    simp [crL]
  · rw [pt_mid hA]
    simp [crL]
theorem crS_us {kp : Nat → Int} {L : List (Int × Sm)} (h : ∀ x ∈ L, x.2.2 ≤ x.2.1.length) (j : Nat) : usM (crS kp L j) ≤ usM L ∧ (crS kp L j).length ≤ L.length := by
  have h1 := crL_us (kp := kp) (l := L.take j) 0 (fun x hx => h x (List.mem_of_mem_take hx))
  have e : usM L = usM (L.take j) + usM (L.drop j) := by
    rw [← usM_app2, List.take_append_drop]
  have e2 : L.length = (L.take j).length + (L.drop j).length := by
    rw [← List.length_append, List.take_append_drop]
  have e3 : usM (crS kp L j) = usM (crL kp 0 (L.take j)) + usM (L.drop j) := usM_app2 _ _
  have e4 : (crS kp L j).length = (crL kp 0 (L.take j)).length + (L.drop j).length := by simp [crS]
  omega
theorem kpA_in (ls : List Int) (i : Nat) (h : ls.length ≠ 0) : kpA ls i = ls.getD (i % ls.length) 0 := if_neg h
set_option maxRecDepth 100000 in
set_option maxHeartbeats 4000000 in
theorem dcrash_any {w : World} {X : Nat} {F : Nat → Prop} {d : Dk} {ls : List Int} {v : Value} (h0 : PD w X F d) (hw : ∀ x ∈ d.L, x.2.2 ≤ x.2.1.length ∧ (Lit.int .i64 x.1).wf = true) (hu : usM d.L ≤ 1000000) (hl : d.L.length ≤ 100000) (hll : ls.length ≤ 100000)
    (hv : ∀ w1, Kf F w w1 → RdI w1 ls v) :
    Calls Try.prog 14 #[.pointer (some ⟨X, 0, none⟩), v] w fun e w' => e = .returned (.tuple #[]) ∧ PD w' X (nF F w) (crD d ls) ∧ Kf F w w' := by
  have hsg := dsegs_any h0 hl
  have h1 : PD w X (cF F w) d := h0.mono (fun j hj hF => ⟨hF, hj⟩)
  have hris : Ris d.L := by obtain ⟨mv, E, fz, g1, g2, g3, _⟩ := h1; rw [← g2]; exact ris_mmE g3.r
  obtain ⟨va, vc, rfl, hvl, hvm⟩ := (hv w (Kf.refl F w)).form
  obtain ⟨n, hn⟩ : ∃ n, d.L.length = n := ⟨_, rfl⟩
  obtain ⟨m, hm⟩ : ∃ n, ls.length = n := ⟨_, rfl⟩
  rw [hn] at hsg hl
  rw [hm] at hvl hll ⊢
  have HN := hideD hn
  have HM := hideD hm
  have HV := hideD hv
  have HW := hideD hw
  have HR := hideD hris
  have HP := hideD h1
  have HU := hideD hu
  have hXw := h0.lt
  clear hn hm hv hw hris h1 h0 hu
  obtain ⟨D, hD⟩ : ∃ D, crD d ls = D := ⟨_, rfl⟩
  rw [hD]
  have HD := hideD hD
  clear hD
  go_enter Try.func14, Try.ntmps14
  go_upto_region 2 with (first
    | (go_at_call 11; refine hsg.mono ?_; rintro e w1 ⟨⟨sv, rfl, ho⟩, b1⟩; clear hsg; obtain ⟨sa, sc, rfl, hsl, hsm⟩ := dorow_form ho)
    | fail)
  have hsz := b1.size
  have hP1 : PD w1 X (nF (cF F w) w1) d := (HP.out.on b1).mono (fun j hj hF => .inl hF)
  have HO := hideD ho
  have HB := hideD b1
  clear ho
  go_wp2
  go_loopw [12] (fun ix wr => ∃ (j : Nat), j ≤ n ∧ ix = .int .i64 (j : Int) ∧ Hid (PD wr X (nF (cF F w) w1) { d with L := crS (kpA ls) d.L j }) ∧ Hid (Kf (nF (cF F w) w1) w1 wr)) (fun ix _ => n - (RowKit.intOf ix).toNat)
  case atStart =>
    refine ⟨0, Nat.zero_le _, rfl, ?_, Kf.refl _ _⟩
    have e : crS (kpA ls) d.L 0 = d.L := by simp [crS, crL]
    show PD w1 X _ { d with L := crS (kpA ls) d.L 0 }
    rw [e]
    exact hP1
  case round =>
    obtain ⟨j, hj, rfl, HPj, HKj⟩ := hrel
    clear hP1
    have hszr := HKj.out.size
    have hKw : Kf F w wr := (Kf.of HB.out (Nat.le_refl _)).transN (HKj.out.mono (fun q hq => hq.elim (fun h => Or.inl h.1) (fun h => Or.inr (by omega))))
    by_cases hlt : j < n
    · have hjl : j < d.L.length := by rw [HN.out]; exact hlt
      obtain ⟨g, rfl⟩ : ∃ g, sa = some ⟨g, 0, none⟩ := by
        rcases HO.out.2 with ⟨e, h0⟩ | ⟨g, cap, cur, e, _⟩
        · have := HN.out
          omega
        · simp only [Value.slice.injEq] at e
          exact ⟨g, e.1⟩
      have hgb := World.ownsRow.lt HO.out g rfl
      have cj := World.ownsRow.cells HO.out (g := g) rfl j (.int .i64 (d.L[j]).1) (by simp [hjl])
      rw [show (⟨g, 0, none⟩ : Addr).add j = ⟨g, j, none⟩ by unfold Addr.add; split <;> simp_all] at cj
      have Cj : wr.cell? ⟨g, j, none⟩ = some (.int .i64 (d.L[j]).1) := (World.cell?_of_block (a := ⟨g, j, none⟩) (HKj.out.block g hgb.2 (fun e => e.elim (fun h => by have := h.2; omega) (fun h => by omega)))).trans cj
      obtain ⟨k1, k2⟩ := crS_step (kp := kpA ls) (d := d) HR.out hjl
      obtain ⟨u1, u2⟩ := crS_us (kp := kpA ls) (L := d.L) (fun x hx => (HW.out x hx).1) j
      have hwj := HW.out _ (List.getElem_mem hjl)
      have huu := HU.out
      have hnn := HN.out
      have hcut := fun t => dcut_any (t := t) HPj.out hwj.2 k1 hwj.1 (Nat.le_trans u1 huu) (Nat.le_trans u2 (by omega))
      have hct := hcut (kpA ls j)
      rw [k2] at hct
      obtain ⟨x, hx⟩ : ∃ x, (d.L[j]).1 = x := ⟨_, rfl⟩
      rw [hx] at Cj hct
      have HCT := hideD hct
      have hr := HV.out wr hKw
      have i1 : (j : Int) < (n : Int) := by omega
      have i2 : (0 : Int) ≤ (j : Int) := by omega
      clear cj k1 k2 u1 u2 hwj huu hnn hcut hct hx hKw
      by_cases hm0 : m = 0
      · have i3 : ¬ (m : Int) > 0 := by omega
        have hk0 : kpA ls j = 0 := if_pos (by rw [HM.out]; exact hm0)
        rw [hk0] at HCT
        have hct := HCT.out
        clear hr hk0 hm0
        go_wp2_with (first
          | (go_at_call 34; refine hct.mono ?_; rintro e w2 ⟨rfl, p2, q2⟩; clear hct)
          | fail)
        have HP2 := hideD p2
        have HQ2 := hideD q2
        clear p2 q2
        go_roundw
        case rel => exact ⟨j + 1, hlt, by go_num, HP2.out.mono (fun q _ hq => hq.elim id (fun h => Or.inr (by omega))), HKj.out.trans HQ2.out⟩
        case measure => simp [RowKit.intOf]; omega
      · have i3 : (m : Int) > 0 := by omega
        have hml : ls.length ≠ 0 := by rw [HM.out]; exact hm0
        have hkA := kpA_in ls j hml
        rw [HM.out] at hkA
        obtain ⟨p, hp, hpl⟩ : ∃ p : Nat, j % m = p ∧ p < m := ⟨_, rfl, Nat.mod_lt _ (by omega)⟩
        rw [hp] at hkA
        obtain ⟨a, cap, e, h1, h2, hcell⟩ := hr
        rw [HM.out] at e
        simp only [Value.slice.injEq] at e
        have e1 := e.1
        clear e
        obtain ⟨b, off, cs, ha, _, hbl, _, hcs, hcl⟩ := hcell p (by rw [HM.out]; exact hpl)
        have hva : va = some ⟨b, off, none⟩ := e1.trans ha
        clear ha e1 hcell
        subst hva
        have cp := hcl 0 (.int .i64 (kpA ls j)) (by rw [hcs, hkA]; simp [List.getD, show p < ls.length by rw [HM.out]; exact hpl])
        rw [Nat.mul_one, Nat.add_zero] at cp
        obtain ⟨T, hT⟩ : ∃ T, kpA ls j = T := ⟨_, rfl⟩
        rw [hT] at cp HCT
        have hct := HCT.out
        have j0 : ¬ (m : Int) = 0 := by omega
        have j1 : ((j : Int) % (m : Int)) = (p : Int) := by rw [← hp]; exact (Int.natCast_emod j m).symm
        have j2 : ((j : Int).tmod (m : Int)) = (p : Int) := by rw [← hp]; exact (Int.ofNat_tmod j m).symm
        have j3 : (0 : Int) ≤ (p : Int) := by omega
        have j4 : (p : Int) < (m : Int) := by omega
        clear hkA hcl hcs hT hp h1 h2 hbl hml
        go_wp2_with (first
          | (go_at_call 34; refine hct.mono ?_; rintro e w2 ⟨rfl, p2, q2⟩; clear hct)
          | fail)
        have HP2 := hideD p2
        have HQ2 := hideD q2
        clear p2 q2
        go_roundw
        case rel => exact ⟨j + 1, hlt, by go_num, HP2.out.mono (fun q _ hq => hq.elim id (fun h => Or.inr (by omega))), HKj.out.trans HQ2.out⟩
        case measure => simp [RowKit.intOf]; omega
    · have i1 : ¬ (j : Int) < (n : Int) := by omega
      have hnn := HN.out
      have e : crS (kpA ls) d.L j = crL (kpA ls) 0 d.L := by
        unfold crS
        rw [List.take_of_length_le (by omega), List.drop_eq_nil_of_le (by omega), List.append_nil]
      have hp := HPj.out
      rw [e] at hp
      obtain ⟨mv, E, fz, g1, g2, g3, g4, g5⟩ := hp
      obtain ⟨c3, f3⟩ := g4 3 _ rfl
      have hp2 : PD (wr.setCell ⟨X, 3, none⟩ (.bool false)) X (nF (cF F w) w1) ⟨crL (kpA ls) 0 d.L, d.room, d.fuse, false⟩ := ⟨mv, E, fz, g1, g2, g3.setX _, g4.set (i := 3) (by simp) (.bool false), g5⟩
      have hfu := dfuse_any hp2 (-1)
      have hKs : Kf F w (wr.setCell ⟨X, 3, none⟩ (.bool false)) := hKw.set (g1.elim (fun h => h.1) (fun h => by omega)) _
      have HK2 := hideD hKs
      have HG := hideD (show ∀ j, nF (cF F w) w1 j → nF F w j from fun q hq => hq.elim (fun h => .inl h.1) (fun h => .inr (by omega)))
      clear hp2 g1 g2 g3 g4 g5 e hKw hKs hnn
      go_wp2_with (first
        | (go_at_call 24; refine hfu.mono ?_; rintro e w2 ⟨rfl, p2, q2⟩; clear hfu)
        | fail)
      go_end0
      have hD := HD.out
      subst hD
      exact ⟨rfl, p2.mono (fun q _ hq => HG.out q hq), HK2.out.transN (q2.mono (fun q hq => HG.out q hq))⟩

def celE (E : List (Int × Sv)) : List Value := E.flatMap fun x => [.int .i64 x.1, x.2.1, .int .i64 (x.2.2.2 : Int)]
theorem celE_cons (x : Int × Sv) (r : List (Int × Sv)) : celE (x :: r) = .int .i64 x.1 :: x.2.1 :: .int .i64 (x.2.2.2 : Int) :: celE r := rfl
theorem celE_app (a b : List (Int × Sv)) : celE (a ++ b) = celE a ++ celE b := List.flatMap_append
theorem celE_len : ∀ E : List (Int × Sv), (celE E).length = E.length * 3
  | [] => rfl
  | x :: r => by
    rw [celE_cons]
    simp only [List.length_cons, celE_len r]
    omega
theorem celE_at : ∀ {E : List (Int × Sv)} {i : Nat} (h : i < E.length), (celE E)[i * 3]? = some (.int .i64 (E[i]).1) ∧ (celE E)[i * 3 + 1]? = some (E[i]).2.1 ∧ (celE E)[i * 3 + 2]? = some (.int .i64 ((E[i]).2.2.2 : Int))
  | x :: r, 0, _ => ⟨rfl, rfl, rfl⟩
  | x :: r, i + 1, h => by
    have := celE_at (E := r) (i := i) (by simpa using h)
    rw [celE_cons]
    have e : (i + 1) * 3 = i * 3 + 3 := by omega
    rw [e]
    simpa using this
theorem oc_E {E : List (Int × Sv)} (h : ∀ x ∈ E, x.2.1.oneCell' = true) : ∀ u ∈ celE E, u.oneCell' = true := by
  intro u hu
  unfold celE at hu
  obtain ⟨x, hx, hu⟩ := List.mem_flatMap.1 hu
  simp only [List.mem_cons, List.not_mem_nil, or_false] at hu
  rcases hu with rfl | rfl | rfl
  · rfl
  · exact h x hx
  · rfl
/-- The document's segments: a row of them, and their bytes. -/
structure QR (w : World) (Y : Nat) (G : Nat → Prop) (Lv : Value) (E : List (Int × Sv)) : Prop where
  r : Ris E
  o : w.ownsRow 0 56 3 Lv E.length (celE E)
  oo : ∀ g, Lv.ownBlock = some g → G g ∧ g ≠ Y
  s : ∀ x ∈ E, Own w 0 5 x.2.1 x.2.2.1 ∧ ∀ q, x.2.1.ownBlock = some q → G q ∧ q ≠ Y ∧ Lv.ownBlock ≠ some q
theorem QR.keep {w w' : World} {Y : Nat} {G H : Nat → Prop} {Lv : Value} {E : List (Int × Sv)} (h : QR w Y G Lv E) (hk : ∀ b, G b → b ≠ Y → b < w.heap.size → w'.heap[b]? = w.heap[b]?) (hGH : ∀ j, j < w.heap.size → G j → H j) : QR w' Y H Lv E :=
  ⟨h.r, ownsRow_keep h.o (fun g hg => hk g (h.oo g hg).1 (h.oo g hg).2 (ownsRow_lt h.o g hg).2), fun g hg => ⟨hGH g (ownsRow_lt h.o g hg).2 (h.oo g hg).1, (h.oo g hg).2⟩,
    fun x hx => ⟨ownD_keep (h.s x hx).1 (fun g hg => hk g ((h.s x hx).2 g hg).1 ((h.s x hx).2 g hg).2.1 (ownsRow_lt (h.s x hx).1 g hg).2), fun g hg => ⟨hGH g (ownsRow_lt (h.s x hx).1 g hg).2 ((h.s x hx).2 g hg).1, ((h.s x hx).2 g hg).2⟩⟩⟩
theorem QR.on {w w' : World} {Y : Nat} {G : Nat → Prop} {Lv : Value} {E : List (Int × Sv)} (h : QR w Y G Lv E) (hb : Below w.heap.size w w') : QR w' Y G Lv E := h.keep (fun b _ _ hlt => hb.block b hlt) (fun _ _ h => h)
theorem QR.setY {w : World} {Y i : Nat} {G : Nat → Prop} {Lv : Value} {E : List (Int × Sv)} (h : QR w Y G Lv E) (u : Value) : QR (w.setCell ⟨Y, i, none⟩ u) Y G Lv E := h.keep (fun b _ hne _ => Below.heap_setCell _ _ _ _ (fun e => hne e)) (fun _ _ h => h)
/-- A segment's cells. -/
theorem QR.at {w : World} {Y : Nat} {G : Nat → Prop} {Lv : Value} {E : List (Int × Sv)} (h : QR w Y G Lv E) {i : Nat} (hi : i < E.length) : ∃ g cap, Lv = .slice (some ⟨g, 0, none⟩) E.length cap ∧ E.length ≤ cap ∧ cap ≤ maxLen ∧ g < w.heap.size ∧
    w.cell? ⟨g, i * 3, none⟩ = some (.int .i64 (E[i]).1) ∧ w.cell? ⟨g, i * 3 + 1, none⟩ = some (E[i]).2.1 ∧ w.cell? ⟨g, i * 3 + 2, none⟩ = some (.int .i64 ((E[i]).2.2.2 : Int)) := by
  have hc := fun g => World.ownsRow.cells h.o (g := g)
  obtain ⟨c0, c1, c2⟩ := celE_at hi
  rcases h.o.2 with ⟨_, h2⟩ | ⟨g, cap, cur, e, _, hg, h3, h4, _⟩
  · omega
  · have d0 := hc g (by rw [e]; rfl) _ _ c0
    have d1 := hc g (by rw [e]; rfl) _ _ c1
    have d2 := hc g (by rw [e]; rfl) _ _ c2
    rw [add_plain, Nat.zero_add] at d0 d1 d2
    exact ⟨g, cap, e, h3, h4, (Array.getElem?_eq_some_iff.1 hg).1, d0, d1, d2⟩
theorem QR.form {w : World} {Y : Nat} {G : Nat → Prop} {Lv : Value} {E : List (Int × Sv)} (h : QR w Y G Lv E) : ∃ a cap, Lv = .slice a E.length cap ∧ E.length ≤ cap ∧ cap ≤ maxLen := by
  rcases h.o.2 with ⟨h1, h2⟩ | ⟨g, cap, cur, h1, _, _, h3, h4, _⟩
  · exact ⟨none, 0, by rw [h1, h2], by omega, by simp [maxLen]⟩
  · exact ⟨_, _, h1, h3, h4⟩
/-- The document's disk in block Y, its memory in blocks of G. -/
def QDE (w : World) (Y : Nat) (G : Nat → Prop) (d : Dk) (Lv : Value) (E : List (Int × Sv)) : Prop := G Y ∧ mmE E = d.L ∧ QR w Y G Lv E ∧ Bn w Y [Lv, .int .i64 d.room, .int .i64 d.fuse, .bool d.dead]
def QD (w : World) (Y : Nat) (G : Nat → Prop) (d : Dk) : Prop := ∃ Lv E, QDE w Y G d Lv E
theorem QDE.keep {w w' : World} {Y : Nat} {G H : Nat → Prop} {d : Dk} {Lv : Value} {E : List (Int × Sv)} (h : QDE w Y G d Lv E) (hk : ∀ b, G b → b < w.heap.size → w'.heap[b]? = w.heap[b]?) (hGH : ∀ j, j < w.heap.size → G j → H j) : QDE w' Y H d Lv E :=
  ⟨hGH Y h.2.2.2.lt h.1, h.2.1, h.2.2.1.keep (fun b hb _ hlt => hk b hb hlt) hGH, h.2.2.2.blk (hk Y h.1 h.2.2.2.lt)⟩
theorem QDE.on {w w' : World} {Y : Nat} {G : Nat → Prop} {d : Dk} {Lv : Value} {E : List (Int × Sv)} (h : QDE w Y G d Lv E) (hb : Below w.heap.size w w') : QDE w' Y G d Lv E := h.keep (fun b _ hlt => hb.block b hlt) (fun _ _ h => h)
theorem QDE.clip {w : World} {Y : Nat} {G : Nat → Prop} {d : Dk} {Lv : Value} {E : List (Int × Sv)} (h : QDE w Y G d Lv E) : QDE w Y (cF G w) d Lv E := h.keep (fun _ _ _ => rfl) (fun j hj hG => ⟨hG, hj⟩)
theorem QD.keep {w w' : World} {Y : Nat} {G H : Nat → Prop} {d : Dk} (h : QD w Y G d) (hk : ∀ b, G b → b < w.heap.size → w'.heap[b]? = w.heap[b]?) (hGH : ∀ j, j < w.heap.size → G j → H j) : QD w' Y H d := by
  obtain ⟨Lv, E, h⟩ := h
  exact ⟨Lv, E, h.keep hk hGH⟩
theorem QD.lt {w : World} {Y : Nat} {G : Nat → Prop} {d : Dk} (h : QD w Y G d) : Y < w.heap.size := by
  obtain ⟨Lv, E, h⟩ := h
  exact h.2.2.2.lt
set_option maxHeartbeats 1000000 in
theorem qnew_any (w : World) (n : Int) : Calls Try.prog 8 #[.int .i64 n] w fun e w' => e = .returned (.pointer (some ⟨w.heap.size, 0, none⟩)) ∧ QD w' w.heap.size (fun j => j = w.heap.size) ⟨[], max n 0, -1, false⟩ ∧ Below w.heap.size w w' := by
  have hp : ∀ m : Int, m = max n 0 → QD (w.alloc (.cells #[.slice none 0 0, .int .i64 m, .int .i64 (-1), .bool false] 51)) w.heap.size (fun j => j = w.heap.size) ⟨[], max n 0, -1, false⟩ := fun m hm => by
    subst hm
    exact ⟨.slice none 0 0, [], rfl, rfl, ⟨List.Pairwise.nil, World.ownsRow_nil _ _ _ _, fun g hg => by simp [Value.ownBlock] at hg, fun x hx => absurd hx (by simp)⟩, Bn.new w [.slice none 0 0, .int .i64 (max n 0), .int .i64 (-1), .bool false] _ _ rfl⟩
  by_cases hn : n < 0
  · go_enter Try.func8, Try.ntmps8
    go_wp2
    go_ret
    exact ⟨rfl, hp _ (by omega), (Below.refl _ _).alloc (Nat.le_refl _) _⟩
  · go_enter Try.func8, Try.ntmps8
    go_wp2
    go_ret
    exact ⟨rfl, hp _ (by omega), (Below.refl _ _).alloc (Nat.le_refl _) _⟩
set_option maxHeartbeats 1000000 in
theorem qburn_any {w : World} {Y : Nat} {G : Nat → Prop} {d : Dk} {Lv : Value} {E : List (Int × Sv)} (h : QDE w Y G d Lv E) (hd : d.fuse ≤ 9223372036854775807) :
    Calls Try.prog 37 #[.pointer (some ⟨Y, 0, none⟩)] w fun e w' => e = .returned (.bool (decide (d.fuse ≠ 0))) ∧ QDE w' Y G (brn d) Lv E ∧ Kf G w w' := by
  obtain ⟨g1, g2, g3, g4⟩ := h
  obtain ⟨c2, f2⟩ := g4 2 _ rfl
  obtain ⟨c3, f3⟩ := g4 3 _ rfl
  by_cases h0 : d.fuse = 0
  · have e1 : brn d = { d with dead := true } := if_pos h0
    rw [e1, decide_eq_false (by simpa using h0)]
    go_enter Try.func37, Try.ntmps37
    go_wp2
    go_ret
    exact ⟨rfl, ⟨g1, g2, g3.setY _, g4.set (i := 3) (by simp) (.bool true)⟩, (Kf.refl G w).set g1 _⟩
  rw [decide_eq_true h0]
  by_cases h1 : 0 < d.fuse
  · have e1 : brn d = { d with fuse := d.fuse - 1 } := (if_neg h0).trans (if_pos h1)
    have hw : IntKind.i64.wrap (d.fuse - 1) = d.fuse - 1 := by rw [IntKind.wrap_i64]; omega
    have h1' : d.fuse > 0 := h1
    have hp := g4.set (i := 2) (by simp) (.int .i64 (d.fuse - 1))
    rw [e1]
    go_enter Try.func37, Try.ntmps37
    go_wp2
    go_ret
    exact ⟨rfl, ⟨g1, g2, g3.setY _, hp⟩, (Kf.refl G w).set g1 _⟩
  · have e1 : brn d = d := (if_neg h0).trans (if_neg h1)
    have h1' : ¬ d.fuse > 0 := h1
    rw [e1]
    go_enter Try.func37, Try.ntmps37
    go_wp2
    go_ret
    exact ⟨rfl, ⟨g1, g2, g3, g4⟩, Kf.refl G w⟩
/-- Which segment has that number. -/
def fI {β : Type} (n : Int) : List (Int × β) → Nat → Int
  | [], _ => -1
  | y :: r, k => if y.1 = n then (k : Int) else fI n r (k + 1)
theorem fI_no {β : Type} {n : Int} : ∀ {l : List (Int × β)} (k : Nat), lk n l = none → fI n l k = -1
  | [], _, _ => rfl
  | y :: r, k, h => by
    unfold lk at h
    unfold fI
    by_cases he : y.1 = n
    · rw [if_pos he] at h
      cases h
    · rw [if_neg he] at h
      rw [if_neg he]
      exact fI_no (k + 1) h
theorem fI_at {β : Type} {n : Int} {b : β} : ∀ {l : List (Int × β)} (k : Nat), lk n l = some b → ∃ (i : Nat) (h : i < l.length), fI n l k = ((k + i : Nat) : Int) ∧ l[i] = (n, b)
  | [], _, h => by simp [lk] at h
  | y :: r, k, h => by
    unfold lk at h
    unfold fI
    by_cases he : y.1 = n
    · rw [if_pos he] at h
      rw [if_pos he]
      obtain rfl := Option.some.inj h
      exact ⟨0, by simp, by simp, by rw [← he]; rfl⟩
    · rw [if_neg he] at h
      rw [if_neg he]
      obtain ⟨i, hi, h1, h2⟩ := fI_at (k + 1) h
      exact ⟨i + 1, by simpa using hi, by rw [h1]; omega, by simpa using h2⟩
set_option maxRecDepth 100000 in
set_option maxHeartbeats 2000000 in
theorem qfind_any {w : World} {Y : Nat} {G : Nat → Prop} {d : Dk} {Lv : Value} {E : List (Int × Sv)} (h : QDE w Y G d Lv E) (n : Int) :
    Calls Try.prog 38 #[.pointer (some ⟨Y, 0, none⟩), .int .i64 n] w fun e w' => e = .returned (.int .i64 (fI n E 0)) ∧ w = w' := by
  obtain ⟨g1, g2, g3, g4⟩ := h
  obtain ⟨c0, f0⟩ := g4 0 _ rfl
  obtain ⟨a, cap, rfl, hlc, hcm⟩ := g3.form
  unfold maxLen at hcm
  obtain ⟨R, hR⟩ : ∃ R, fI n E 0 = R := ⟨_, rfl⟩
  rw [hR]
  obtain ⟨m, hm⟩ : ∃ m, E.length = m := ⟨_, rfl⟩
  have HQ := hideD g3
  have HM := hideD hm
  have H0 := hideD (show fI n (E.drop 0) 0 = R from hR)
  rw [hm] at c0 hlc HQ
  clear g2 g3 g4 hR hm
  go_enter Try.func38, Try.ntmps38
  go_wp2
  go_loopw [11] (fun ix wr => ∃ (j : Nat), j ≤ m ∧ ix = .int .i64 (j : Int) ∧ w = wr ∧ Hid (fI n (E.drop j) j = R)) (fun ix _ => m - (RowKit.intOf ix).toNat)
  case atStart => exact ⟨0, Nat.zero_le _, rfl, rfl, H0⟩
  case round =>
    obtain ⟨j, hj, rfl, rfl, HF⟩ := hrel
    clear H0
    by_cases hlt : j < m
    · have hjl : j < E.length := by rw [HM.out]; exact hlt
      obtain ⟨g, cap', e, _, _, hgl, d0, _, _⟩ := QR.at HQ.out hjl
      simp only [Value.slice.injEq] at e
      have ha := e.1
      clear e
      subst ha
      have hfe := HF.out
      rw [List.drop_eq_getElem_cons hjl] at hfe
      unfold fI at hfe
      obtain ⟨x, hx⟩ : ∃ x, (E[j]).1 = x := ⟨_, rfl⟩
      rw [hx] at d0 hfe
      have k1 : (j : Int) < (m : Int) := by omega
      have k2 : (0 : Int) ≤ (j : Int) := by omega
      have HFE := hideD hfe
      clear hfe HF hx
      by_cases he : x = n
      · have := HFE.out
        rw [if_pos he] at this
        have HR := hideD this
        clear this HFE
        go_wp2
        go_ret
        exact ⟨by rw [← HR.out]; rfl, rfl⟩
      · go_wp2
        go_roundw
        case rel =>
          have := HFE.out
          rw [if_neg he] at this
          exact ⟨j + 1, hlt, by go_num, by first | rfl | trivial, this⟩
        case measure => simp [RowKit.intOf]; omega
    · have k1 : ¬ (j : Int) < (m : Int) := by omega
      have hR := HF.out
      have e : E.drop j = [] := List.drop_eq_nil_of_le (by rw [HM.out]; omega)
      rw [e] at hR
      have hR2 : (-1 : Int) = R := hR
      subst hR2
      clear HF hR e
      go_wp2
      go_ret
      exact ⟨rfl, rfl⟩

theorem QDE.us {w : World} {Y : Nat} {G : Nat → Prop} {d : Dk} {Lv : Value} {E : List (Int × Sv)} (h : QDE w Y G d Lv E) : mmE E = d.L := h.2.1
theorem usM_step {L : List (Int × Sm)} {j : Nat} (h : j < L.length) : usM (L.take (j + 1)) = usM (L.take j) + (L[j]).2.1.length := by
  rw [List.take_succ_eq_append_getElem h, usM_app2]
  simp [usM]
theorem usM_take_le (L : List (Int × Sm)) (j : Nat) : usM (L.take j) ≤ usM L := by
  have : usM L = usM (L.take j) + usM (L.drop j) := by rw [← usM_app2, List.take_append_drop]
  omega
set_option maxRecDepth 100000 in
set_option maxHeartbeats 2000000 in
theorem qused_any {w : World} {Y : Nat} {G : Nat → Prop} {d : Dk} {Lv : Value} {E : List (Int × Sv)} (h : QDE w Y G d Lv E) (hu : usM d.L ≤ 1000000) :
    Calls Try.prog 29 #[.pointer (some ⟨Y, 0, none⟩)] w fun e w' => e = .returned (.int .i64 (usM d.L : Int)) ∧ w = w' := by
  obtain ⟨g1, g2, g3, g4⟩ := h
  obtain ⟨c0, f0⟩ := g4 0 _ rfl
  obtain ⟨a, cap, rfl, hlc, hcm⟩ := g3.form
  unfold maxLen at hcm
  obtain ⟨m, hm⟩ : ∃ m, E.length = m := ⟨_, rfl⟩
  obtain ⟨U, hU⟩ : ∃ U, usM d.L = U := ⟨_, rfl⟩
  rw [hU] at hu ⊢
  have HQ := hideD g3
  have HM := hideD hm
  have HU := hideD hU
  have HL := hideD g2
  rw [hm] at c0 hlc HQ
  clear g2 g3 g4 hm hU
  go_enter Try.func29, Try.ntmps29
  go_wp2
  go_loopw [3, 10] (fun t ix wr => ∃ (j : Nat), j ≤ m ∧ ix = .int .i64 (j : Int) ∧ t = .int .i64 (usM (d.L.take j) : Int) ∧ w = wr) (fun _ ix _ => m - (RowKit.intOf ix).toNat)
  case atStart => exact ⟨0, Nat.zero_le _, rfl, by simp [usM], rfl⟩
  case round =>
    obtain ⟨j, hj, rfl, rfl, rfl⟩ := hrel
    by_cases hlt : j < m
    · have hjl : j < E.length := by rw [HM.out]; exact hlt
      have hdl : j < d.L.length := by rw [← HL.out]; simpa [mmE] using hjl
      obtain ⟨g, cap', e, _, _, hgl, _, d1, _⟩ := QR.at HQ.out hjl
      simp only [Value.slice.injEq] at e
      have ha := e.1
      clear e
      subst ha
      obtain ⟨ho, _⟩ := HQ.out.s _ (List.getElem_mem hjl)
      obtain ⟨sa, sc, hsv, hsl, hsm⟩ := slice_form ho
      rw [hsv] at d1
      have hst := usM_step hdl
      have hle := usM_take_le d.L (j + 1)
      rw [HU.out] at hle
      have hlen : (d.L[j]).2.1.length = (E[j]).2.2.1.length := by
        have : d.L[j] = (mmE E)[j]'(by simpa [mmE] using hjl) := by simp only [HL.out]
        rw [this]
        simp [mmE]
      rw [hlen] at hst
      obtain ⟨q, hq⟩ : ∃ q, (E[j]).2.2.1.length = q := ⟨_, rfl⟩
      rw [hq] at d1 hst hsl
      obtain ⟨s1, hs1⟩ : ∃ q, usM (d.L.take j) = q := ⟨_, rfl⟩
      obtain ⟨s2, hs2⟩ : ∃ q, usM (d.L.take (j + 1)) = q := ⟨_, rfl⟩
      rw [hs1, hs2] at hst
      rw [hs2] at hle
      rw [hs1]
      have k1 : (j : Int) < (m : Int) := by omega
      have k2 : (0 : Int) ≤ (j : Int) := by omega
      have hwr : wrap64 ((s1 : Int) + (q : Int)) = (s2 : Int) := by unfold wrap64; omega
      have H2 := hideD hs2
      clear ho hsv hsl hsm hst hle hlen hq hs1 hs2 hdl
      go_wp2
      rw [hwr]
      go_roundw
      case rel => exact ⟨j + 1, hlt, by go_num, by rw [H2.out], by first | rfl | trivial⟩
      case measure => simp [RowKit.intOf]; omega
    · have k1 : ¬ (j : Int) < (m : Int) := by omega
      have e : d.L.take j = d.L := List.take_of_length_le (by
        have h1 := HM.out
        have h2 : (mmE E).length = d.L.length := by rw [HL.out]
        simp [mmE] at h2
        omega)
      rw [e, HU.out]
      clear e
      go_wp2
      go_ret
      exact ⟨rfl, rfl⟩
theorem pt_set {β : Type} {n : Int} {b c : β} : ∀ {l : List (Int × β)}, Ris l → lk n l = some b → ∃ (i : Nat) (h : i < l.length), fI n l 0 = (i : Int) ∧ l[i] = (n, b) ∧ pt n c l = l.set i (n, c)
  | [], _, h => by simp [lk] at h
  | y :: r, hs, h => by
    obtain ⟨h1, h2⟩ := List.pairwise_cons.1 hs
    obtain ⟨i, hi, e1, e2⟩ := fI_at 0 h
    refine ⟨i, hi, by rw [e1]; simp, e2, ?_⟩
    unfold lk at h
    unfold fI at e1
    unfold pt
    by_cases he : y.1 = n
    · rw [if_neg (by omega), if_pos he]
      rw [if_pos he] at e1
      have : i = 0 := by omega
      subst this
      rfl
    · rw [if_neg he] at h
      have hm := h1 _ (lk_mem h)
      simp only at hm
      rw [if_neg (by omega), if_neg he]
      obtain ⟨i', hi', q1, q2, q3⟩ := pt_set (c := c) h2 h
      cases i with
      | zero => simp at e2; rw [e2] at he; exact absurd rfl he
      | succ k =>
        have hk : k = i' := by
          have a1 : r[k]'(by simpa using hi) = (n, b) := by simpa using e2
          have hr := List.pairwise_iff_getElem.1 h2
          rcases Nat.lt_trichotomy k i' with hl | hl | hl
          · have := hr k i' (by simpa using hi) hi' hl
            rw [a1, q2] at this
            simp at this
          · exact hl
          · have := hr i' k hi' (by simpa using hi) hl
            rw [a1, q2] at this
            simp at this
        subst hk
        rw [q3]
        rfl
theorem celE_set1 : ∀ {E : List (Int × Sv)} {i : Nat} (h : i < E.length) (v : Value) (bs : List Int), (celE E).set (i * 3 + 1) v = celE (E.set i ((E[i]).1, v, bs, (E[i]).2.2.2))
  | x :: r, 0, _, v, bs => rfl
  | x :: r, i + 1, h, v, bs => by
    have := celE_set1 (E := r) (i := i) (by simpa using h) v bs
    show ([.int .i64 x.1, x.2.1, .int .i64 (x.2.2.2 : Int)] ++ celE r).set ((i + 1) * 3 + 1) v = [.int .i64 x.1, x.2.1, .int .i64 (x.2.2.2 : Int)] ++ celE (r.set i ((r[i]'(by simpa using h)).1, v, bs, (r[i]'(by simpa using h)).2.2.2))
    rw [List.set_append_right _ _ (by simp; omega), ← this]
    congr 2
    simp
    omega
theorem celE_set2 : ∀ {E : List (Int × Sv)} {i : Nat} (h : i < E.length) (k : Nat), (celE E).set (i * 3 + 2) (.int .i64 (k : Int)) = celE (E.set i ((E[i]).1, (E[i]).2.1, (E[i]).2.2.1, k))
  | x :: r, 0, _, k => rfl
  | x :: r, i + 1, h, k => by
    have := celE_set2 (E := r) (i := i) (by simpa using h) k
    show ([.int .i64 x.1, x.2.1, .int .i64 (x.2.2.2 : Int)] ++ celE r).set ((i + 1) * 3 + 2) (.int .i64 (k : Int)) = [.int .i64 x.1, x.2.1, .int .i64 (x.2.2.2 : Int)] ++ celE (r.set i ((r[i]'(by simpa using h)).1, (r[i]'(by simpa using h)).2.1, (r[i]'(by simpa using h)).2.2.1, k))
    rw [List.set_append_right _ _ (by simp; omega), ← this]
    congr 2
    simp
    omega
set_option maxRecDepth 100000 in
set_option maxHeartbeats 4000000 in
theorem qread_any {w : World} {Y : Nat} {G : Nat → Prop} {d : Dk} {n : Int} (h0 : QD w Y G d) (hu : usM d.L ≤ 1000000) :
    Calls Try.prog 23 #[.pointer (some ⟨Y, 0, none⟩), .int .i64 n] w fun e w' => (∃ v', e = .returned (.tuple #[v', .int .i64 (redD d n).2]) ∧ Own w' w.heap.size 5 v' (redD d n).1) ∧ Below w.heap.size w w' := by
  obtain ⟨Lv, E, h⟩ := h0
  have hf := qfind_any h n
  obtain ⟨g1, g2, g3, g4⟩ := id h
  obtain ⟨c0, f0⟩ := g4 0 _ rfl
  obtain ⟨c3, f3⟩ := g4 3 _ rfl
  have hlk := mmE_lk n E
  rw [g2] at hlk
  unfold redD
  by_cases hd : d.dead = true
  · rw [if_pos hd]
    rw [hd] at c3
    clear h g2 g3 g4 hlk
    go_enter Try.func23, Try.ntmps23
    go_wp2_with (first
      | (go_at_call 38; refine hf.mono ?_; rintro e w2 ⟨rfl, rfl⟩; clear hf)
      | fail)
    go_ret2
    exact ⟨⟨_, rfl, World.ownsRow_nil w _ 5 1⟩, Below.refl _ _⟩
  rw [if_neg hd]
  have hd : d.dead = false := by simpa using hd
  rw [hd] at c3
  cases hq : lk n E with
  | none =>
    rw [hq] at hlk
    rw [hlk]
    simp only [Option.map_none]
    rw [fI_no 0 hq] at hf
    clear h g2 g3 g4 hlk hq
    go_enter Try.func23, Try.ntmps23
    go_wp2_with (first
      | (go_at_call 38; refine hf.mono ?_; rintro e w2 ⟨rfl, rfl⟩; clear hf)
      | fail)
    go_ret2
    exact ⟨⟨_, rfl, World.ownsRow_nil w _ 5 1⟩, Below.refl _ _⟩
  | some s =>
    rw [hq] at hlk
    rw [hlk]
    simp only [Option.map_some]
    obtain ⟨i, hi, e1, e2⟩ := fI_at 0 hq
    rw [e1, Nat.zero_add] at hf
    obtain ⟨g, cap, rfl, hlc, hcm, hgl, d0, d1, d2⟩ := g3.at hi
    rw [e2] at d1
    obtain ⟨ho, _⟩ := g3.s _ (lk_mem hq)
    simp only at ho d1
    obtain ⟨sa, sc, hsv, _, _⟩ := slice_form ho
    have hus := usM_lk (L := d.L) (n := n) (s := s.2) hlk
    have hal : Below w.heap.size w (w.alloc (.cells #[] 5)) := (Below.refl _ _).alloc (Nat.le_refl _) _
    have hown : (w.alloc (.cells #[] 5)).ownsRow w.heap.size 5 1 (.slice (some ⟨w.heap.size, 0, none⟩) 0 0) 0 [] := World.ownsRow_made w #[] 0 (Nat.le_refl _) (Nat.zero_le _) rfl
    have hR := rd_on ho.rd hal
    rw [hsv] at hR d1
    have hsrc := hR.src (t := 30) (e := 5) Try.underlying30
    obtain ⟨bs, hbs⟩ : ∃ x, s.2.1 = x := ⟨_, rfl⟩
    rw [hbs] at hsrc hus d1 ⊢
    have D1 := (hal.cell (p := ⟨g, i * 3 + 1, none⟩) hgl).trans d1
    have C0 := (hal.cell (p := ⟨Y, 0, none⟩) g4.lt).trans c0
    obtain ⟨i0, hi0, hz0, hz1, hz2⟩ := u8_inf
    have hbl : bs.length ≤ 1000000 := by omega
    obtain ⟨k, hk⟩ : ∃ k, bs.length = k := ⟨_, rfl⟩
    rw [hk] at D1 hsrc hbl
    obtain ⟨ln, hln⟩ : ∃ k, E.length = k := ⟨_, rfl⟩
    rw [hln] at C0 hi hlc
    have k1 : (0 : Int) ≤ (i : Int) := by omega
    have k2 : (i : Int) < (ln : Int) := by omega
    have k3 : ¬ (i : Int) < 0 := by omega
    have HK := hideD hk
    clear h g2 g3 g4 hlk hq e1 e2 d0 d1 d2 ho hsv hR hus hbs hk hln c0 f0
    go_enter Try.func23, Try.ntmps23
    go_wp2_with (first
      | (go_at_call 38; refine hf.mono ?_; rintro e w2 ⟨rfl, rfl⟩; clear hf)
      | (at_builtin; refine wpList_append_at _ rfl _ _ 30 30 rfl w.heap.size 5 i0 (.int .u8 0) 1 1 Try.underlying30 hi0 hz0 hz1 hz2 rfl _ 0 _ rfl hown _ _ _ rfl hsrc k (.inr (by omega)) (Nat.le_refl _) (by unfold maxLen; omega) (by simp) ?_; intro vb wb hOb hgb hat; clear hown hsrc)
      | fail)
    go_ret2
    refine ⟨⟨_, rfl, ?_⟩, hal.grown hgb (by simp) (fun k hk => by have : w.heap.size = k := Option.some.inj hk; omega)⟩
    unfold Own
    rw [HK.out]
    simpa using hOb

/-- A cell of the row of segments, written. -/
theorem QR.upd {w : World} {Y g off : Nat} {G H : Nat → Prop} {Lv u : Value} {E E' : List (Int × Sv)} (h : QR w Y G Lv E) (hg : Lv.ownBlock = some g) (ho : (w.setCell ⟨g, off, none⟩ u).ownsRow 0 56 3 Lv E'.length (celE E')) (hr : Ris E')
    (hm : ∀ x ∈ E', x ∈ E ∨ (Own w 0 5 x.2.1 x.2.2.1 ∧ ∀ q, x.2.1.ownBlock = some q → H q ∧ q ≠ Y ∧ q ≠ g)) (hGH : ∀ j, j < w.heap.size → G j → H j) : QR (w.setCell ⟨g, off, none⟩ u) Y H Lv E' := by
  have hset : ∀ b, b ≠ g → (w.setCell ⟨g, off, none⟩ u).heap[b]? = w.heap[b]? := fun b hb => Below.heap_setCell _ _ _ _ (fun e => hb e)
  refine ⟨hr, ho, fun q hq => ⟨hGH q (ownsRow_lt h.o q hq).2 (h.oo q hq).1, (h.oo q hq).2⟩, fun x hx => ?_⟩
  rcases hm x hx with hx | ⟨h1, h2⟩
  · obtain ⟨h1, h2⟩ := h.s x hx
    have hne : ∀ q, x.2.1.ownBlock = some q → q ≠ g := fun q hq e => (h2 q hq).2.2 (by rw [hg, e])
    exact ⟨ownD_keep h1 (fun q hq => hset q (hne q hq)), fun q hq => ⟨hGH q (ownsRow_lt h1 q hq).2 (h2 q hq).1, (h2 q hq).2⟩⟩
  · exact ⟨ownD_keep h1 (fun q hq => hset q (h2 q hq).2.2), fun q hq => ⟨(h2 q hq).1, (h2 q hq).2.1, fun e => by rw [hg] at e; exact (h2 q hq).2.2 (Option.some.inj e).symm⟩⟩
theorem opM_dead {d : Dk} {n : Int} {f : Sm → Dk} (h : d.dead = true) : opM d n f = (d, 8) := if_pos h
theorem opM_none {d : Dk} {n : Int} {f : Sm → Dk} (h : d.dead = false) (hk : lk n d.L = none) : opM d n f = (d, 5) := by
  unfold opM
  rw [if_neg (by simp [h]), hk]
theorem opM_burn {d : Dk} {n : Int} {f : Sm → Dk} {s : Sm} (h : d.dead = false) (hk : lk n d.L = some s) (hz : d.fuse = 0) : opM d n f = (brn d, 8) := by
  unfold opM
  rw [if_neg (by simp [h]), hk]
  exact if_pos hz
theorem opM_ok {d : Dk} {n : Int} {f : Sm → Dk} {s : Sm} (h : d.dead = false) (hk : lk n d.L = some s) (hz : ¬ d.fuse = 0) : opM d n f = (f s, 0) := by
  unfold opM
  rw [if_neg (by simp [h]), hk]
  exact if_neg hz
set_option maxRecDepth 100000 in
set_option maxHeartbeats 4000000 in
theorem qsync_any {w : World} {Y : Nat} {G : Nat → Prop} {d : Dk} {n : Int} (h0 : QD w Y G d) (hfu : d.fuse ≤ 9223372036854775807) :
    Calls Try.prog 20 #[.pointer (some ⟨Y, 0, none⟩), .int .i64 n] w fun e w' => e = .returned (.int .i64 (opM d n (synF d n)).2) ∧ QD w' Y (nF G w) (opM d n (synF d n)).1 ∧ Kf G w w' := by
  obtain ⟨Lv, E, h⟩ := h0
  have hf := qfind_any h n
  have hbn := qburn_any h hfu
  have hw : QD w Y (nF G w) d := ⟨Lv, E, h.keep (fun _ _ _ => rfl) (fun j _ hj => .inl hj)⟩
  obtain ⟨g1, g2, g3, g4⟩ := id h
  obtain ⟨c3, f3⟩ := g4 3 _ rfl
  have hlk := mmE_lk n E
  rw [g2] at hlk
  by_cases hd : d.dead = true
  · rw [opM_dead hd]
    rw [hd] at c3
    clear h g2 g3 g4 hlk hbn
    go_enter Try.func20, Try.ntmps20
    go_wp2_with (first
      | (go_at_call 38; refine hf.mono ?_; rintro e w2 ⟨rfl, rfl⟩; clear hf)
      | fail)
    go_ret
    exact ⟨rfl, hw, Kf.refl _ _⟩
  have hd : d.dead = false := by simpa using hd
  rw [hd] at c3
  cases hq : lk n E with
  | none =>
    rw [hq] at hlk
    rw [opM_none hd hlk]
    rw [fI_no 0 hq] at hf
    clear h g2 g3 g4 hlk hq hbn
    go_enter Try.func20, Try.ntmps20
    go_wp2_with (first
      | (go_at_call 38; refine hf.mono ?_; rintro e w2 ⟨rfl, rfl⟩; clear hf)
      | fail)
    go_ret
    exact ⟨rfl, hw, Kf.refl _ _⟩
  | some s =>
    rw [hq] at hlk
    obtain ⟨sv, sb, sn⟩ := s
    simp only [Option.map_some] at hlk
    obtain ⟨i, hi, e1, e2, e3⟩ := pt_set (c := (sv, sb, sb.length)) g3.r hq
    rw [e1] at hf
    have k3 : ¬ (i : Int) < 0 := by omega
    by_cases hz : d.fuse = 0
    · rw [opM_burn hd hlk hz]
      rw [decide_eq_false (by simpa using hz)] at hbn
      clear h g2 g3 g4 hlk hq e1 e2 e3
      go_enter Try.func20, Try.ntmps20
      go_wp2_with (first
        | (go_at_call 38; refine hf.mono ?_; rintro e w2 ⟨rfl, rfl⟩; clear hf)
        | (go_at_call 37; refine hbn.mono ?_; rintro e w2 ⟨rfl, q1, q2⟩; clear hbn)
        | fail)
      go_ret
      exact ⟨rfl, ⟨Lv, E, q1.keep (fun _ _ _ => rfl) (fun j _ hj => .inl hj)⟩, q2⟩
    · rw [opM_ok hd hlk hz]
      rw [decide_eq_true hz] at hbn
      obtain ⟨D, hD⟩ : ∃ D, synF d n (sb, sn) = D := ⟨_, rfl⟩
      rw [hD]
      have HD := hideD hD
      have HE := hideD (And.intro e2 (And.intro e3 (And.intro hlk (And.intro g2 g3.r))))
      obtain ⟨a, cap, e, hlc, hcm⟩ := g3.form
      have hi' := hideD hi
      clear h g2 g3 g4 hlk hq e1 e2 e3 hD hw
      go_enter Try.func20, Try.ntmps20
      go_upto_region 8 with (first
        | (go_at_call 38; refine hf.mono ?_; rintro e w2 ⟨rfl, rfl⟩; clear hf)
        | (go_at_call 37; refine hbn.mono ?_; rintro e w1 ⟨rfl, q1, q2⟩; clear hbn)
        | fail)
      obtain ⟨p1, p2, p3, p4⟩ := q1
      obtain ⟨e2, e3, hlk, hmm, hris⟩ := HE.out
      obtain ⟨g, cap', e', _, _, hgl, d0, d1, d2⟩ := p3.at hi
      rw [e2] at d1
      obtain ⟨ho, hof⟩ := p3.s _ (List.getElem_mem hi)
      rw [e2] at ho hof d2
      simp only at ho hof d1 d2
      obtain ⟨sa, sc, rfl, _, _⟩ := slice_form ho
      subst e'
      obtain ⟨c0, f0⟩ := p4 0 _ rfl
      have fz2 : w1.frozen? ⟨g, i * 3 + 2, none⟩ = false := World.ownsRow.frozenAt p3.o _
      have hst := (World.ownsRow.stored p3.o (i * 3 + 2) (.int .i64 (sb.length : Int))).1
      rw [celE_set2 hi, e2] at hst
      simp only at hst
      rw [← e3] at hst
      have hlen : (pt n (Value.slice sa sb.length sc, sb, sb.length) E).length = E.length := by rw [e3, List.length_set]
      have hQ : QDE (w1.setCell ⟨g, i * 3 + 2, none⟩ (.int .i64 (sb.length : Int))) Y (nF G w) D (.slice (some ⟨g, 0, none⟩) E.length cap') (pt n (.slice sa sb.length sc, sb, sb.length) E) := by
        have hgY := (p3.oo g rfl).2
        refine ⟨.inl p1, ?_, p3.upd rfl (by rw [hlen]; exact hst) (ris_pt hris) (fun x hx => ?_) (fun j _ hj => .inl hj), ?_⟩
        · rw [mmE_pt, hmm, ← HD.out]
          rfl
        · rcases mem_pt hris hx with rfl | ⟨hx, _⟩
          · exact .inr ⟨ho, fun q hq => ⟨.inl (hof q hq).1, (hof q hq).2.1, fun e => (hof q hq).2.2 (by rw [e]; rfl)⟩⟩
          · exact .inl hx
        · rw [← HD.out]
          have := p4.far hgY (i := i * 3 + 2) (.int .i64 (sb.length : Int))
          exact this
      have hK : Kf G w (w1.setCell ⟨g, i * 3 + 2, none⟩ (.int .i64 (sb.length : Int))) := q2.set (p3.oo g rfl).1 _
      have HQ := hideD (And.intro hQ hK)
      obtain ⟨ln, hln⟩ : ∃ k, E.length = k := ⟨_, rfl⟩
      have hi2 := hi
      rw [hln] at c0 hi2
      have k1 : (0 : Int) ≤ (i : Int) := by omega
      have k2 : (i : Int) < (ln : Int) := by omega
      have hgY := (p3.oo g rfl).2
      have V0 : (w1.setCell ⟨g, i * 3 + 2, none⟩ (.int .i64 (sb.length : Int))).drew.cell? ⟨Y, 0, none⟩ = some (.slice (some ⟨g, 0, none⟩) ln cap') := cell_far4 (by omega) c0
      have V1 : (w1.setCell ⟨g, i * 3 + 2, none⟩ (.int .i64 (sb.length : Int))).drew.cell? ⟨g, i * 3 + 1, none⟩ = some (.slice sa sb.length sc) := cell_far4 (by omega) d1
      have U0 : w1.drew.cell? ⟨Y, 0, none⟩ = some (.slice (some ⟨g, 0, none⟩) ln cap') := c0
      have U1 : w1.drew.cell? ⟨g, i * 3 + 1, none⟩ = some (.slice sa sb.length sc) := d1
      clear p1 p2 p3 p4 hst hQ hK hlen e2 e3 hlk hmm hris ho hof d0 HE hi' hi hln e q2
      go_region_held_law (fun w' => w'.cell? ⟨Y, 0, none⟩ = some (.slice (some ⟨g, 0, none⟩) ln cap') ∧ w'.cell? ⟨g, i * 3 + 1, none⟩ = some (.slice sa sb.length sc))
        (first | (with_reducible exact ⟨c0, d1⟩) | (with_reducible exact ⟨U0, U1⟩) | (with_reducible exact ⟨V0, V1⟩)) (fail)
      go_wp2
      go_ret
      exact ⟨rfl, ⟨_, _, HQ.out.1.keep (fun _ _ _ => rfl) (fun _ _ h => h)⟩, HQ.out.2.drew⟩
end Go.Proofs.Ytibmbbiipffooaa
