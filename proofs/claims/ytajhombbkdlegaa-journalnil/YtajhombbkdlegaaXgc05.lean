import Derived.Shelf.SlIterI.Nil
import Derived.Shelf.SortM.Plain
import Derived.Shelf.SortM.SortNone
import Derived.Test.YtajhombbkdlegaaRows
import Derived.Test.YtajhombbkdlegaaXgc04

/- Contracts of generic functions of the library at this program. -/
namespace Go.Proofs.Ytajhombbkdlegaa
open Go.Shelf
set_option linter.unusedVariables false

def renKy : Ren := { f := fun x => match x with | 7 => 58 | 10 => 73 | n => n, t := fun x => match x with | 23 => 67 | 26 => 3 | 3 => 93 | 28 => 97 | 0 => 0 | 27 => 96 | 33 => 106 | 4 => 4 | n => n, g := fun x => x }
theorem laysKy : SlLaysZI.n7 Try.prog renKy :=
  { mixed := by kernel_rfl, f7 := ⟨ "maps.Keys[map[int]tumbrel/disk.content,int,tumbrel/disk.content]", by decide, Try.func58.trans (congrArg some (by kernel_rfl))⟩, f10 := ⟨ "maps.Keys[map[int]tumbrel/disk.content,int,tumbrel/disk.content]$1", by decide, Try.func73.trans (congrArg some (by kernel_rfl))⟩, t0 := Try.underlying0, a0 := Try.isAgg0, z0 := Try.sizeOf0, v0 := Try.zeroValue0, t4 := Try.underlying4, a4 := Try.isAgg4, z4 := Try.sizeOf4, v4 := Try.zeroValue4, t23 := Try.underlying67, a23 := Try.isAgg67, z23 := Try.sizeOf67, v23 := Try.zeroValue67, t26 := Try.underlying3, a26 := Try.isAgg3, z26 := Try.sizeOf3, v26 := Try.zeroValue3, t27 := Try.underlying96, a27 := Try.isAgg96, z27 := Try.sizeOf96, v27 := Try.zeroValue96, t28 := Try.underlying97, a28 := Try.isAgg97, z28 := Try.sizeOf97, v28 := Try.zeroValue97, t33 := Try.underlying106, a33 := Try.isAgg106, z33 := Try.sizeOf106, v33 := Try.zeroValue106 }
def renSd : Ren := { f := fun x => match x with | 6 => 57 | 8 => 71 | 9 => 72 | 11 => 81 | 13 => 83 | 12 => 82 | 23 => 96 | 24 => 97 | 14 => 87 | 15 => 88 | 16 => 89 | 17 => 90 | 18 => 91 | 19 => 92 | 20 => 93 | 21 => 94 | 22 => 95 | 25 => 98 | 26 => 99 | 27 => 100 | 28 => 101 | 29 => 102 | 30 => 103 | 31 => 104 | n => n, t := fun x => match x with | 26 => 3 | 28 => 97 | 24 => 37 | 0 => 0 | 3 => 3 | 37 => 60 | 48 => 132 | 50 => 134 | 4 => 4 | 40 => 124 | 39 => 123 | 45 => 129 | 5 => 5 | 9 => 9 | 51 => 135 | 55 => 139 | 57 => 141 | 58 => 142 | 33 => 106 | n => n, g := fun x => x }
theorem laysSd : SlLaysZI.n6 Try.prog renSd :=
  { mixed := by kernel_rfl, f6 := ⟨ "slices.Sorted[int]", by decide, Try.func57.trans (congrArg some (by kernel_rfl))⟩, f8 := ⟨ "slices.Collect[int]", by decide, Try.func71.trans (congrArg some (by kernel_rfl))⟩, f11 := ⟨ "slices.AppendSeq[[]int,int]", by decide, Try.func81.trans (congrArg some (by kernel_rfl))⟩, t0 := Try.underlying0, a0 := Try.isAgg0, z0 := Try.sizeOf0, v0 := Try.zeroValue0, t24 := Try.underlying37, a24 := Try.isAgg37, z24 := Try.sizeOf37, v24 := Try.zeroValue37, t26 := Try.underlying3, a26 := Try.isAgg3, z26 := Try.sizeOf3, v26 := Try.zeroValue3, t28 := Try.underlying97, a28 := Try.isAgg97, z28 := Try.sizeOf97, v28 := Try.zeroValue97, i26 := by kernel_rfl }
def renSo : Ren := { f := fun x => match x with | 5 => 72 | 8 => 83 | 7 => 82 | 19 => 96 | 20 => 97 | 10 => 87 | 11 => 88 | 12 => 89 | 13 => 90 | 14 => 91 | 15 => 92 | 16 => 93 | 17 => 94 | 18 => 95 | 30 => 98 | 31 => 99 | 32 => 100 | 33 => 101 | 34 => 102 | 35 => 103 | 40 => 104 | n => n, t := fun x => match x with | 23 => 37 | 25 => 3 | 3 => 3 | 32 => 60 | 22 => 37 | 0 => 0 | 44 => 132 | 46 => 134 | 4 => 4 | 36 => 124 | 35 => 123 | 41 => 129 | 5 => 5 | 9 => 9 | 53 => 135 | 57 => 139 | 63 => 141 | 64 => 142 | n => n, g := fun x => x }
theorem laysSo : SlLaysM.n5 Try.prog renSo :=
  { mixed := by kernel_rfl, f5 := ⟨ "slices.Sort[[]int,int]", by decide, Try.func72.trans (congrArg some (by kernel_rfl))⟩, f7 := ⟨ "slices.pdqsortOrdered[int]", by decide, Try.func82.trans (congrArg some (by kernel_rfl))⟩, f8 := Try.func83.trans (congrArg some (by kernel_rfl)), f10 := ⟨ "slices.insertionSortOrdered[int]", by decide, Try.func87.trans (congrArg some (by kernel_rfl))⟩, f11 := ⟨ "slices.heapSortOrdered[int]", by decide, Try.func88.trans (congrArg some (by kernel_rfl))⟩, f12 := ⟨ "slices.breakPatternsOrdered[int]", by decide, Try.func89.trans (congrArg some (by kernel_rfl))⟩, f13 := ⟨ "slices.choosePivotOrdered[int]", by decide, Try.func90.trans (congrArg some (by kernel_rfl))⟩, f14 := ⟨ "slices.reverseRangeOrdered[int]", by decide, Try.func91.trans (congrArg some (by kernel_rfl))⟩, f15 := ⟨ "slices.partialInsertionSortOrdered[int]", by decide, Try.func92.trans (congrArg some (by kernel_rfl))⟩, f16 := ⟨ "cmp.Less[int]", by decide, Try.func93.trans (congrArg some (by kernel_rfl))⟩, f17 := ⟨ "slices.partitionEqualOrdered[int]", by decide, Try.func94.trans (congrArg some (by kernel_rfl))⟩, f18 := ⟨ "slices.partitionOrdered[int]", by decide, Try.func95.trans (congrArg some (by kernel_rfl))⟩, f19 := Try.func96.trans (congrArg some (by kernel_rfl)), f20 := Try.func97.trans (congrArg some (by kernel_rfl)), f30 := ⟨ "slices.siftDownOrdered[int]", by decide, Try.func98.trans (congrArg some (by kernel_rfl))⟩, f31 := Try.func99.trans (congrArg some (by kernel_rfl)), f32 := Try.func100.trans (congrArg some (by kernel_rfl)), f33 := ⟨ "slices.medianAdjacentOrdered[int]", by decide, Try.func101.trans (congrArg some (by kernel_rfl))⟩, f34 := ⟨ "slices.medianOrdered[int]", by decide, Try.func102.trans (congrArg some (by kernel_rfl))⟩, f35 := ⟨ "cmp.isNaN[int]", by decide, Try.func103.trans (congrArg some (by kernel_rfl))⟩, f40 := ⟨ "slices.order2Ordered[int]", by decide, Try.func104.trans (congrArg some (by kernel_rfl))⟩, t0 := Try.underlying0, a0 := Try.isAgg0, z0 := Try.sizeOf0, v0 := Try.zeroValue0, t3 := Try.underlying3, a3 := Try.isAgg3, z3 := Try.sizeOf3, v3 := Try.zeroValue3, t4 := Try.underlying4, a4 := Try.isAgg4, z4 := Try.sizeOf4, v4 := Try.zeroValue4, t5 := Try.underlying5, a5 := Try.isAgg5, z5 := Try.sizeOf5, v5 := Try.zeroValue5, t9 := Try.underlying9, a9 := Try.isAgg9, z9 := Try.sizeOf9, v9 := Try.zeroValue9, t22 := Try.underlying37, a22 := Try.isAgg37, z22 := Try.sizeOf37, v22 := Try.zeroValue37, t23 := Try.underlying37, a23 := Try.isAgg37, z23 := Try.sizeOf37, v23 := Try.zeroValue37, t25 := Try.underlying3, a25 := Try.isAgg3, z25 := Try.sizeOf3, v25 := Try.zeroValue3, t32 := Try.underlying60, a32 := Try.isAgg60, z32 := Try.sizeOf60, v32 := Try.zeroValue60, t35 := Try.underlying123, a35 := Try.isAgg123, z35 := Try.sizeOf123, v35 := Try.zeroValue123, t36 := Try.underlying124, a36 := Try.isAgg124, z36 := Try.sizeOf124, v36 := Try.zeroValue124, t41 := Try.underlying129, a41 := Try.isAgg129, z41 := Try.sizeOf129, v41 := Try.zeroValue129, t44 := Try.underlying132, a44 := Try.isAgg132, z44 := Try.sizeOf132, v44 := Try.zeroValue132, t46 := Try.underlying134, a46 := Try.isAgg134, z46 := Try.sizeOf134, v46 := Try.zeroValue134, t53 := Try.underlying135, a53 := Try.isAgg135, z53 := Try.sizeOf135, v53 := Try.zeroValue135, t57 := Try.underlying139, a57 := Try.isAgg139, z57 := Try.sizeOf139, v57 := Try.zeroValue139, t63 := Try.underlying141, a63 := Try.isAgg141, z63 := Try.sizeOf141, v63 := Try.zeroValue141, t64 := Try.underlying142, a64 := Try.isAgg142, z64 := Try.sizeOf142, v64 := Try.zeroValue142 }
end Go.Proofs.Ytajhombbkdlegaa

/- The program's disk: Segments. -/
namespace Go.Proofs.Ytajhombbkdlegaa
open Go.RowKit Go.Lib Go.Maps Go.Sort Go.Shelf
set_option linter.unusedSimpArgs false
set_option linter.unusedVariables false

theorem sorts_any (m : Nat) : AnyZI.SortsIn Try.prog renSd Fence.wide m :=
  ⟨fun blk off cap ss W hH hblk hsz => callsIn_wide.2 (AnyM.slices_Sort_int laysSo blk off cap ss W hH hblk hsz),
   fun p cap W => callsIn_wide.2 (AnyM.slices_Sort_int_none laysSo p cap W)⟩
theorem keys_esD (E : List (Int × Sv)) : intKeys (DataW.map (esD (esV E))) = E.map (·.1) := by
  show (esD (esV E)).map (fun p => Go.intOf p.1) = _
  unfold esD esV
  rw [List.map_map, List.map_map]
  exact List.map_congr_left (fun x _ => rfl)
theorem sort_keys {E : List (Int × Sv)} (hE : Ris E) {ss : List Int} (h : ss.Perm (E.map (·.1))) : ss.mergeSort (fun x y => decide (x ≤ y)) = E.map (·.1) := by
  refine List.Perm.eq_of_pairwise (le := fun x y => x ≤ y) (fun a b _ _ h1 h2 => by omega) ?_ ?_ ((List.mergeSort_perm ss _).trans h)
  · have := List.pairwise_mergeSort (le := fun x y : Int => decide (x ≤ y)) (fun a b c h1 h2 => by simp at *; omega) (fun a b => by simp; omega) ss
    exact this.imp (fun h => of_decide_eq_true h)
  · exact List.pairwise_map.2 (hE.imp (fun h => Int.le_of_lt h))
set_option maxRecDepth 100000 in
set_option maxHeartbeats 4000000 in
theorem dsegs_any {w : World} {X : Nat} {F : Nat → Prop} {d : Dk} (h0 : PD w X F d) (hl : d.L.length ≤ 100000) :
    Calls Try.prog 30 #[.pointer (some ⟨X, 0, none⟩)] w fun e w' => (∃ v, e = .returned v ∧ w'.ownsRow w.heap.size 3 1 v d.L.length ((d.L.map (·.1)).map (Value.int .i64))) ∧ Below w.heap.size w w' := by
  obtain ⟨mv, E, fz, g1, g2, g3, g4, g5⟩ := h0
  obtain ⟨c0, f0⟩ := g4 0 _ rfl
  have hlE : E.length = d.L.length := by rw [← g2]; simp [mmE]
  have hkk : d.L.map (·.1) = E.map (·.1) := by rw [← g2]; simp [mmE]
  rw [hkk, ← hlE]
  rw [← hlE] at hl
  have hr := g3.r
  have hm := g3.m
  clear g2 g3 g4 g5 hkk hlE
  refine (callsIn_wide (n := 6)).1 ?_
  have hseq : SeqGives Fence.wide 2 Try.prog 73 #[.pointer (some ⟨w.heap.size, 0, none⟩)] encZ (fun ss => ss.Perm (E.map (·.1))) E.length (w.alloc (.cells #[.map mv] 67)) := by
    rcases hm with ⟨rfl, e⟩ | ⟨b, rfl, hown⟩
    · have hE : E = [] := List.eq_nil_of_length_eq_zero (by have := congrArg List.length e; simpa [esV] using this)
      subst hE
      have := AnyZI.keys_gives_nil (ρ := renKy) { laysKy with } Fence.wide 2 trivial rfl w.heap.size (w.alloc (.cells #[.map none] 67)) (by simp) (by simp)
      intro l J W hW hJ hY h0
      refine (this l J W hW hJ hY h0).mono ?_
      rintro e w' ⟨h1, xs, h2, h3⟩
      exact ⟨h1, xs, by rw [h2]; simp, h3⟩
    · have hbl := hown.lt
      have := AnyZI.keys_gives (ρ := renKy) { laysKy with } Fence.wide 2 trivial rfl (by omega) w.heap.size b (esV E).length (.map (esD (esV E))) (w.alloc (.cells #[.map (some b)] 67)) (R := hR) (by simp) (by simp) (by
        obtain ⟨es, clock, hb, Ft, hs, hD⟩ := hown
        exact ⟨es, clock, (Below.heap_alloc _ _ b hbl).trans hb, Ft, hs, hD⟩)
      rw [keys_esD] at this
      have e2 : Maps.size (DataW.map (esD (esV E))) = E.length := by simp [Maps.size, esD, esV]
      rw [e2] at this
      exact this
  have cK : ∀ mb W, CallsIn Fence.wide 5 Try.prog 58 #[.map mb] W fun e w' => e = .returned (.func (.func 73) #[] #[.pointer (some ⟨W.heap.size, 0, none⟩)]) ∧ w' = W.alloc (.cells #[.map mb] 67) := fun mb W => AnyZI.keys_in laysKy Fence.wide 5 trivial rfl mb W
  have cS := AnyZI.sorted_in laysSd Fence.wide 5 trivial trivial trivial trivial rfl (by omega) (sorts_any _) (enters_of Try.func72 (by kernel_rfl) rfl) 73 #[.pointer (some ⟨w.heap.size, 0, none⟩)] trivial (enters_of Try.func73 (by kernel_rfl) rfl) _ _ (by unfold maxLen; omega) (by omega) _ hseq
  change CallsIn _ _ Try.prog 57 _ _ _ at cS
  have hfK : Fence.wide.fn 58 := trivial
  have hfS : Fence.wide.fn 57 := trivial
  refine callsIn_of_wp Try.func30 rfl trivial ?_ rfl
  simp only [Try.ntmps30, List.size_toArray, List.length_cons, List.length_nil, Nat.reduceAdd, Nat.reduceSub, Array.replicate_succ, Array.replicate_zero, List.push_toArray, List.append_toArray, List.nil_append, List.cons_append]
  gi_wp2_with (first
    | (gi_at_call 58; refine (cK _ _).mono ?_; rintro e w' ⟨rfl, rfl⟩)
    | (gi_at_call 57; refine cS.mono ?_; rintro e w' ⟨v, ss, rfl, hS, hrow, hnil, hb⟩))
  go_ret
  refine ⟨⟨v, rfl, ?_⟩, ((Below.refl _ w).alloc (Nat.le_refl _) _).trans (hb.mono (by simp))⟩
  rw [sort_keys hr hS] at hrow
  have hlen : ss.length = E.length := by have := hS.length_eq; simpa using this
  rw [hlen] at hrow
  exact ownsRow_base_a hrow (by simp)
end Go.Proofs.Ytajhombbkdlegaa

/- Scripts of calls on a disk, as they come in; Few. -/
namespace Go.Proofs.Ytajhombbkdlegaa
open Go.RowKit Go.Lib Go.Maps
set_option linter.unusedSimpArgs false
set_option linter.unusedVariables false
attribute [local go_sem ↓] Go.wp_at_zero Go.wp_at_succ

structure OpM where
  kind : Int
  a : Int
  b : Int
  y : Int
  bs : List Int
  ls : List Int
def rIntD : Int → List Value → Prop := fun x cs => cs = [.int .i64 x]
abbrev RdI (w : World) (l : List Int) (v : Value) : Prop := RdK (fun _ => True) w 1 rIntD l v
def rOp (w : World) : OpM → List Value → Prop := fun x cs => ∃ bv lv, cs = [.int .i64 x.kind, .int .i64 x.a, .int .i64 x.b, .int .u8 x.y, bv, lv] ∧ Rd w bv x.bs ∧ RdI w x.ls lv
abbrev RdO (w : World) (l : List OpM) (v : Value) : Prop := RdK (fun _ => True) w 6 (rOp w) l v
structure WfO (x : OpM) : Prop where
  a : (Lit.int .i64 x.a).wf = true
  b : (Lit.int .i64 x.b).wf = true
  y : 0 ≤ x.y ∧ x.y ≤ 255
  bs : ∀ b ∈ x.bs, 0 ≤ b ∧ b ≤ 255
  bl : x.bs.length ≤ 140737488351232
  ll : x.ls.length ≤ 140737488351232
theorem RdI.on {w w' : World} {l : List Int} {v : Value} (h : RdI w l v) (hb : Below w.heap.size w w') : RdI w' l v := RdK.keep h (fun _ _ _ h => h) (fun b _ hlt => ⟨trivial, hb.block b hlt⟩)
theorem rOp_on {w w' : World} {x : OpM} {cs : List Value} (h : rOp w x cs) (hb : Below w.heap.size w w') : rOp w' x cs := by
  obtain ⟨bv, lv, h1, h2, h3⟩ := h
  exact ⟨bv, lv, h1, rd_on h2 hb, h3.on hb⟩
theorem RdO.on {w w' : World} {l : List OpM} {v : Value} (h : RdO w l v) (hb : Below w.heap.size w w') : RdO w' l v := RdK.keep h (fun _ _ _ h => rOp_on h hb) (fun b _ hlt => ⟨trivial, hb.block b hlt⟩)

/-- What a crash leaves of segments, of which the first is number i. -/
def crL (kp : Nat → Int) : Nat → List (Int × Sm) → List (Int × Sm)
  | _, [] => []
  | i, x :: r => if kpN x.2 (kp i) = 0 then crL kp (i + 1) r else (x.1, (x.2.1.take (kpN x.2 (kp i)), kpN x.2 (kp i))) :: crL kp (i + 1) r
def kpA (ls : List Int) (i : Nat) : Int := if ls.length = 0 then 0 else ls.getD (i % ls.length) 0
def crD (d : Dk) (ls : List Int) : Dk := ⟨crL (kpA ls) 0 d.L, d.room, -1, false⟩
theorem crL_cons (kp : Nat → Int) (i : Nat) (x : Int × Sm) (r : List (Int × Sm)) : crL kp i (x :: r) = if kpN x.2 (kp i) = 0 then crL kp (i + 1) r else (x.1, (x.2.1.take (kpN x.2 (kp i)), kpN x.2 (kp i))) :: crL kp (i + 1) r := rfl
theorem crL_mem {kp : Nat → Int} : ∀ {l : List (Int × Sm)} {i : Nat} {a : Int × Sm}, a ∈ crL kp i l → ∃ y ∈ l, a.1 = y.1
  | [], i, a, h => by simp [crL] at h
  | x :: r, i, a, h => by
    rw [crL_cons] at h
    split at h
    · obtain ⟨y, h1, h2⟩ := crL_mem h
      exact ⟨y, List.mem_cons_of_mem _ h1, h2⟩
    · rcases List.mem_cons.1 h with rfl | h
      · exact ⟨x, List.mem_cons_self, rfl⟩
      · obtain ⟨y, h1, h2⟩ := crL_mem h
        exact ⟨y, List.mem_cons_of_mem _ h1, h2⟩
theorem crL_us {kp : Nat → Int} : ∀ {l : List (Int × Sm)} (i : Nat), (∀ x ∈ l, x.2.2 ≤ x.2.1.length) → usM (crL kp i l) ≤ usM l ∧ (crL kp i l).length ≤ l.length
  | [], i, _ => by simp [crL]
  | x :: r, i, h => by
    obtain ⟨h1, h2⟩ := crL_us (kp := kp) (l := r) (i + 1) (fun y hy => h y (List.mem_cons_of_mem _ hy))
    have hx := kpN_le (kp i) (h x List.mem_cons_self)
    rw [crL_cons]
    split
    · rw [usM_cons]
      simp only [List.length_cons]
      omega
    · rw [usM_cons, usM_cons]
      simp only [List.length_cons, List.length_take]
      omega
end Go.Proofs.Ytajhombbkdlegaa
