import Derived.Shelf.SlIterI.Nil
import Derived.Shelf.SortM.Plain
import Derived.Shelf.SortM.SortNone
import Derived.Test.YtpblcahcpobicaaRows
import Derived.Test.YtpblcahcpobicaaXmc04
import Derived.BigQuiet
import Derived.Deep.QuietTactic
import Derived.Deep.RegionLaw
import Derived.Deep.Cut

/- Contracts of generic functions of the library at this program. -/
namespace Go.Proofs.Ytpblcahcpobicaa
open Go.Shelf
set_option linter.unusedVariables false

def renKy : Ren := { f := fun x => match x with | 7 => 57 | 10 => 72 | n => n, t := fun x => match x with | 23 => 66 | 26 => 3 | 3 => 92 | 28 => 96 | 0 => 0 | 27 => 95 | 33 => 105 | 4 => 4 | n => n, g := fun x => x }
theorem laysKy : SlLaysZI.n7 Try.prog renKy :=
  { mixed := by kernel_rfl, f7 := ⟨ "maps.Keys[map[int]tumbrel/disk.content,int,tumbrel/disk.content]", by decide, Try.func57.trans (congrArg some (by kernel_rfl))⟩, f10 := ⟨ "maps.Keys[map[int]tumbrel/disk.content,int,tumbrel/disk.content]$1", by decide, Try.func72.trans (congrArg some (by kernel_rfl))⟩, t0 := Try.underlying0, a0 := Try.isAgg0, z0 := Try.sizeOf0, v0 := Try.zeroValue0, t4 := Try.underlying4, a4 := Try.isAgg4, z4 := Try.sizeOf4, v4 := Try.zeroValue4, t23 := Try.underlying66, a23 := Try.isAgg66, z23 := Try.sizeOf66, v23 := Try.zeroValue66, t26 := Try.underlying3, a26 := Try.isAgg3, z26 := Try.sizeOf3, v26 := Try.zeroValue3, t27 := Try.underlying95, a27 := Try.isAgg95, z27 := Try.sizeOf95, v27 := Try.zeroValue95, t28 := Try.underlying96, a28 := Try.isAgg96, z28 := Try.sizeOf96, v28 := Try.zeroValue96, t33 := Try.underlying105, a33 := Try.isAgg105, z33 := Try.sizeOf105, v33 := Try.zeroValue105 }
def renSd : Ren := { f := fun x => match x with | 6 => 56 | 8 => 70 | 9 => 71 | 11 => 80 | 13 => 82 | 12 => 81 | 23 => 95 | 24 => 96 | 14 => 86 | 15 => 87 | 16 => 88 | 17 => 89 | 18 => 90 | 19 => 91 | 20 => 92 | 21 => 93 | 22 => 94 | 25 => 97 | 26 => 98 | 27 => 99 | 28 => 100 | 29 => 101 | 30 => 102 | 31 => 103 | n => n, t := fun x => match x with | 26 => 3 | 28 => 96 | 24 => 37 | 0 => 0 | 3 => 3 | 37 => 60 | 48 => 131 | 50 => 133 | 4 => 4 | 40 => 123 | 39 => 122 | 45 => 128 | 5 => 5 | 9 => 9 | 51 => 134 | 55 => 138 | 57 => 140 | 58 => 141 | 33 => 105 | n => n, g := fun x => x }
theorem laysSd : SlLaysZI.n6 Try.prog renSd :=
  { mixed := by kernel_rfl, f6 := ⟨ "slices.Sorted[int]", by decide, Try.func56.trans (congrArg some (by kernel_rfl))⟩, f8 := ⟨ "slices.Collect[int]", by decide, Try.func70.trans (congrArg some (by kernel_rfl))⟩, f11 := ⟨ "slices.AppendSeq[[]int,int]", by decide, Try.func80.trans (congrArg some (by kernel_rfl))⟩, t0 := Try.underlying0, a0 := Try.isAgg0, z0 := Try.sizeOf0, v0 := Try.zeroValue0, t24 := Try.underlying37, a24 := Try.isAgg37, z24 := Try.sizeOf37, v24 := Try.zeroValue37, t26 := Try.underlying3, a26 := Try.isAgg3, z26 := Try.sizeOf3, v26 := Try.zeroValue3, t28 := Try.underlying96, a28 := Try.isAgg96, z28 := Try.sizeOf96, v28 := Try.zeroValue96, i26 := by kernel_rfl }
def renSo : Ren := { f := fun x => match x with | 5 => 71 | 8 => 82 | 7 => 81 | 19 => 95 | 20 => 96 | 10 => 86 | 11 => 87 | 12 => 88 | 13 => 89 | 14 => 90 | 15 => 91 | 16 => 92 | 17 => 93 | 18 => 94 | 30 => 97 | 31 => 98 | 32 => 99 | 33 => 100 | 34 => 101 | 35 => 102 | 40 => 103 | n => n, t := fun x => match x with | 23 => 37 | 25 => 3 | 3 => 3 | 32 => 60 | 22 => 37 | 0 => 0 | 44 => 131 | 46 => 133 | 4 => 4 | 36 => 123 | 35 => 122 | 41 => 128 | 5 => 5 | 9 => 9 | 53 => 134 | 57 => 138 | 63 => 140 | 64 => 141 | n => n, g := fun x => x }
theorem laysSo : SlLaysM.n5 Try.prog renSo :=
  { mixed := by kernel_rfl, f5 := ⟨ "slices.Sort[[]int,int]", by decide, Try.func71.trans (congrArg some (by kernel_rfl))⟩, f7 := ⟨ "slices.pdqsortOrdered[int]", by decide, Try.func81.trans (congrArg some (by kernel_rfl))⟩, f8 := Try.func82.trans (congrArg some (by kernel_rfl)), f10 := ⟨ "slices.insertionSortOrdered[int]", by decide, Try.func86.trans (congrArg some (by kernel_rfl))⟩, f11 := ⟨ "slices.heapSortOrdered[int]", by decide, Try.func87.trans (congrArg some (by kernel_rfl))⟩, f12 := ⟨ "slices.breakPatternsOrdered[int]", by decide, Try.func88.trans (congrArg some (by kernel_rfl))⟩, f13 := ⟨ "slices.choosePivotOrdered[int]", by decide, Try.func89.trans (congrArg some (by kernel_rfl))⟩, f14 := ⟨ "slices.reverseRangeOrdered[int]", by decide, Try.func90.trans (congrArg some (by kernel_rfl))⟩, f15 := ⟨ "slices.partialInsertionSortOrdered[int]", by decide, Try.func91.trans (congrArg some (by kernel_rfl))⟩, f16 := ⟨ "cmp.Less[int]", by decide, Try.func92.trans (congrArg some (by kernel_rfl))⟩, f17 := ⟨ "slices.partitionEqualOrdered[int]", by decide, Try.func93.trans (congrArg some (by kernel_rfl))⟩, f18 := ⟨ "slices.partitionOrdered[int]", by decide, Try.func94.trans (congrArg some (by kernel_rfl))⟩, f19 := Try.func95.trans (congrArg some (by kernel_rfl)), f20 := Try.func96.trans (congrArg some (by kernel_rfl)), f30 := ⟨ "slices.siftDownOrdered[int]", by decide, Try.func97.trans (congrArg some (by kernel_rfl))⟩, f31 := Try.func98.trans (congrArg some (by kernel_rfl)), f32 := Try.func99.trans (congrArg some (by kernel_rfl)), f33 := ⟨ "slices.medianAdjacentOrdered[int]", by decide, Try.func100.trans (congrArg some (by kernel_rfl))⟩, f34 := ⟨ "slices.medianOrdered[int]", by decide, Try.func101.trans (congrArg some (by kernel_rfl))⟩, f35 := ⟨ "cmp.isNaN[int]", by decide, Try.func102.trans (congrArg some (by kernel_rfl))⟩, f40 := ⟨ "slices.order2Ordered[int]", by decide, Try.func103.trans (congrArg some (by kernel_rfl))⟩, t0 := Try.underlying0, a0 := Try.isAgg0, z0 := Try.sizeOf0, v0 := Try.zeroValue0, t3 := Try.underlying3, a3 := Try.isAgg3, z3 := Try.sizeOf3, v3 := Try.zeroValue3, t4 := Try.underlying4, a4 := Try.isAgg4, z4 := Try.sizeOf4, v4 := Try.zeroValue4, t5 := Try.underlying5, a5 := Try.isAgg5, z5 := Try.sizeOf5, v5 := Try.zeroValue5, t9 := Try.underlying9, a9 := Try.isAgg9, z9 := Try.sizeOf9, v9 := Try.zeroValue9, t22 := Try.underlying37, a22 := Try.isAgg37, z22 := Try.sizeOf37, v22 := Try.zeroValue37, t23 := Try.underlying37, a23 := Try.isAgg37, z23 := Try.sizeOf37, v23 := Try.zeroValue37, t25 := Try.underlying3, a25 := Try.isAgg3, z25 := Try.sizeOf3, v25 := Try.zeroValue3, t32 := Try.underlying60, a32 := Try.isAgg60, z32 := Try.sizeOf60, v32 := Try.zeroValue60, t35 := Try.underlying122, a35 := Try.isAgg122, z35 := Try.sizeOf122, v35 := Try.zeroValue122, t36 := Try.underlying123, a36 := Try.isAgg123, z36 := Try.sizeOf123, v36 := Try.zeroValue123, t41 := Try.underlying128, a41 := Try.isAgg128, z41 := Try.sizeOf128, v41 := Try.zeroValue128, t44 := Try.underlying131, a44 := Try.isAgg131, z44 := Try.sizeOf131, v44 := Try.zeroValue131, t46 := Try.underlying133, a46 := Try.isAgg133, z46 := Try.sizeOf133, v46 := Try.zeroValue133, t53 := Try.underlying134, a53 := Try.isAgg134, z53 := Try.sizeOf134, v53 := Try.zeroValue134, t57 := Try.underlying138, a57 := Try.isAgg138, z57 := Try.sizeOf138, v57 := Try.zeroValue138, t63 := Try.underlying140, a63 := Try.isAgg140, z63 := Try.sizeOf140, v63 := Try.zeroValue140, t64 := Try.underlying141, a64 := Try.isAgg141, z64 := Try.sizeOf141, v64 := Try.zeroValue141 }
end Go.Proofs.Ytpblcahcpobicaa

/- The program's disk: Segments. -/
namespace Go.Proofs.Ytpblcahcpobicaa
open Go.RowKit Go.Lib Go.Maps Go.Sort Go.Shelf
set_option linter.unusedSimpArgs false
set_option linter.unusedVariables false

theorem sorts_any (m : Nat) : AnyZI.SortsIn Try.prog renSd Fence.wide m :=
  ⟨fun blk off cap ss W hH hblk hsz => callsIn_wide.2 (AnyM.slices_Sort_int laysSo blk off cap ss W hH hblk hsz),
   fun p cap W => callsIn_wide.2 (AnyM.slices_Sort_int_none laysSo p cap W)⟩
theorem keys_esD (E : List (Int × Sv)) : intKeys (DataW.map (esD (esV E))) = E.map (·.1) := by
  show (esD (esV E)).map (fun p => Go.intOf p.1) = _
  unfold esD esV
  rw [List.map_map, List.map_map]
  exact List.map_congr_left (fun x _ => rfl)
theorem sort_keys {E : List (Int × Sv)} (hE : Ris E) {ss : List Int} (h : ss.Perm (E.map (·.1))) : ss.mergeSort (fun x y => decide (x ≤ y)) = E.map (·.1) := by
  refine List.Perm.eq_of_pairwise (le := fun x y => x ≤ y) (fun a b _ _ h1 h2 => by omega) ?_ ?_ ((List.mergeSort_perm ss _).trans h)
  · have := List.pairwise_mergeSort (le := fun x y : Int => decide (x ≤ y)) (fun a b c h1 h2 => by simp at *; omega) (fun a b => by simp; omega) ss
    exact this.imp (fun h => of_decide_eq_true h)
  · exact List.pairwise_map.2 (hE.imp (fun h => Int.le_of_lt h))
set_option maxRecDepth 100000 in
set_option maxHeartbeats 4000000 in
theorem dsegs_any {w : World} {X : Nat} {F : Nat → Prop} {d : Dk} (h0 : PD w X F d) (hl : d.L.length ≤ 100000) :
    Calls Try.prog 29 #[.pointer (some ⟨X, 0, none⟩)] w fun e w' => (∃ v, e = .returned v ∧ w'.ownsRow w.heap.size 3 1 v d.L.length ((d.L.map (·.1)).map (Value.int .i64))) ∧ Below w.heap.size w w' := by
  obtain ⟨mv, E, fz, g1, g2, g3, g4, g5⟩ := h0
  obtain ⟨c0, f0⟩ := g4 0 _ rfl
  have hlE : E.length = d.L.length := by rw [← g2]; simp [mmE]
  have hkk : d.L.map (·.1) = E.map (·.1) := by rw [← g2]; simp [mmE]
  rw [hkk, ← hlE]
  rw [← hlE] at hl
  have hr := g3.r
  have hm := g3.m
  clear g2 g3 g4 g5 hkk hlE
  refine (callsIn_wide (n := 6)).1 ?_
  have hseq : SeqGives Fence.wide 2 Try.prog 72 #[.pointer (some ⟨w.heap.size, 0, none⟩)] encZ (fun ss => ss.Perm (E.map (·.1))) E.length (w.alloc (.cells #[.map mv] 66)) := by
    rcases hm with ⟨rfl, e⟩ | ⟨b, rfl, hown⟩
    · have hE : E = [] := List.eq_nil_of_length_eq_zero (by have := congrArg List.length e; simpa [esV] using this)
      subst hE
      have := AnyZI.keys_gives_nil (ρ := renKy) { laysKy with } Fence.wide 2 trivial rfl w.heap.size (w.alloc (.cells #[.map none] 66)) (by simp) (by simp)
      intro l J W hW hJ hY h0
      refine (this l J W hW hJ hY h0).mono ?_
      rintro e w' ⟨h1, xs, h2, h3⟩
      exact ⟨h1, xs, by rw [h2]; simp, h3⟩
    · have hbl := hown.lt
      have := AnyZI.keys_gives (ρ := renKy) { laysKy with } Fence.wide 2 trivial rfl (by omega) w.heap.size b (esV E).length (.map (esD (esV E))) (w.alloc (.cells #[.map (some b)] 66)) (R := hR) (by simp) (by simp) (by
        obtain ⟨es, clock, hb, Ft, hs, hD⟩ := hown
        exact ⟨es, clock, (Below.heap_alloc _ _ b hbl).trans hb, Ft, hs, hD⟩)
      rw [keys_esD] at this
      have e2 : Maps.size (DataW.map (esD (esV E))) = E.length := by simp [Maps.size, esD, esV]
      rw [e2] at this
      exact this
  have cK : ∀ mb W, CallsIn Fence.wide 5 Try.prog 57 #[.map mb] W fun e w' => e = .returned (.func (.func 72) #[] #[.pointer (some ⟨W.heap.size, 0, none⟩)]) ∧ w' = W.alloc (.cells #[.map mb] 66) := fun mb W => AnyZI.keys_in laysKy Fence.wide 5 trivial rfl mb W
  have cS := AnyZI.sorted_in laysSd Fence.wide 5 trivial trivial trivial trivial rfl (by omega) (sorts_any _) (enters_of Try.func71 (by kernel_rfl) rfl) 72 #[.pointer (some ⟨w.heap.size, 0, none⟩)] trivial (enters_of Try.func72 (by kernel_rfl) rfl) _ _ (by unfold maxLen; omega) (by omega) _ hseq
  change CallsIn _ _ Try.prog 56 _ _ _ at cS
  have hfK : Fence.wide.fn 57 := trivial
  have hfS : Fence.wide.fn 56 := trivial
  refine callsIn_of_wp Try.func29 rfl trivial ?_ rfl
  simp only [Try.ntmps29, List.size_toArray, List.length_cons, List.length_nil, Nat.reduceAdd, Nat.reduceSub, Array.replicate_succ, Array.replicate_zero, List.push_toArray, List.append_toArray, List.nil_append, List.cons_append]
  gi_wp2_with (first
    | (gi_at_call 57; refine (cK _ _).mono ?_; rintro e w' ⟨rfl, rfl⟩)
    | (gi_at_call 56; refine cS.mono ?_; rintro e w' ⟨v, ss, rfl, hS, hrow, hnil, hb⟩))
  go_ret
  refine ⟨⟨v, rfl, ?_⟩, ((Below.refl _ w).alloc (Nat.le_refl _) _).trans (hb.mono (by simp))⟩
  rw [sort_keys hr hS] at hrow
  have hlen : ss.length = E.length := by have := hS.length_eq; simpa using this
  rw [hlen] at hrow
  exact ownsRow_base_a hrow (by simp)
end Go.Proofs.Ytpblcahcpobicaa

/- Scripts of calls on a disk, as they come in; Few. -/
namespace Go.Proofs.Ytpblcahcpobicaa
open Go.RowKit Go.Lib Go.Maps
set_option linter.unusedSimpArgs false
set_option linter.unusedVariables false
attribute [local go_sem ↓] Go.wp_at_zero Go.wp_at_succ

structure OpM where
  kind : Int
  a : Int
  b : Int
  y : Int
  bs : List Int
  ls : List Int
def rIntD : Int → List Value → Prop := fun x cs => cs = [.int .i64 x]
abbrev RdI (w : World) (l : List Int) (v : Value) : Prop := RdK (fun _ => True) w 1 rIntD l v
def rOp (w : World) : OpM → List Value → Prop := fun x cs => ∃ bv lv, cs = [.int .i64 x.kind, .int .i64 x.a, .int .i64 x.b, .int .u8 x.y, bv, lv] ∧ Rd w bv x.bs ∧ RdI w x.ls lv
abbrev RdO (w : World) (l : List OpM) (v : Value) : Prop := RdK (fun _ => True) w 6 (rOp w) l v
structure WfO (x : OpM) : Prop where
  a : (Lit.int .i64 x.a).wf = true
  b : (Lit.int .i64 x.b).wf = true
  y : 0 ≤ x.y ∧ x.y ≤ 255
  bs : ∀ b ∈ x.bs, 0 ≤ b ∧ b ≤ 255
  bl : x.bs.length ≤ 140737488351232
  ll : x.ls.length ≤ 140737488351232
theorem RdI.on {w w' : World} {l : List Int} {v : Value} (h : RdI w l v) (hb : Below w.heap.size w w') : RdI w' l v := RdK.keep h (fun _ _ _ h => h) (fun b _ hlt => ⟨trivial, hb.block b hlt⟩)
theorem rOp_on {w w' : World} {x : OpM} {cs : List Value} (h : rOp w x cs) (hb : Below w.heap.size w w') : rOp w' x cs := by
  obtain ⟨bv, lv, h1, h2, h3⟩ := h
  exact ⟨bv, lv, h1, rd_on h2 hb, h3.on hb⟩
theorem RdO.on {w w' : World} {l : List OpM} {v : Value} (h : RdO w l v) (hb : Below w.heap.size w w') : RdO w' l v := RdK.keep h (fun _ _ _ h => rOp_on h hb) (fun b _ hlt => ⟨trivial, hb.block b hlt⟩)

/-- What a crash leaves of segments, of which the first is number i. -/
def crL (kp : Nat → Int) : Nat → List (Int × Sm) → List (Int × Sm)
  | _, [] => []
  | i, x :: r => if kpN x.2 (kp i) = 0 then crL kp (i + 1) r else (x.1, (x.2.1.take (kpN x.2 (kp i)), kpN x.2 (kp i))) :: crL kp (i + 1) r
def kpA (ls : List Int) (i : Nat) : Int := if ls.length = 0 then 0 else ls.getD (i % ls.length) 0
def crD (d : Dk) (ls : List Int) : Dk := ⟨crL (kpA ls) 0 d.L, d.room, -1, false⟩
theorem crL_cons (kp : Nat → Int) (i : Nat) (x : Int × Sm) (r : List (Int × Sm)) : crL kp i (x :: r) = if kpN x.2 (kp i) = 0 then crL kp (i + 1) r else (x.1, (x.2.1.take (kpN x.2 (kp i)), kpN x.2 (kp i))) :: crL kp (i + 1) r := rfl
theorem usM_app2 (a b : List (Int × Sm)) : usM (a ++ b) = usM a + usM b := by simp [usM]
theorem crL_mem {kp : Nat → Int} : ∀ {l : List (Int × Sm)} {i : Nat} {a : Int × Sm}, a ∈ crL kp i l → ∃ y ∈ l, a.1 = y.1
  | [], i, a, h => by simp [crL] at h
  | x :: r, i, a, h => by
    rw [crL_cons] at h
    split at h
    · obtain ⟨y, h1, h2⟩ := crL_mem h
      exact ⟨y, List.mem_cons_of_mem _ h1, h2⟩
    · rcases List.mem_cons.1 h with rfl | h
      · exact ⟨x, List.mem_cons_self, rfl⟩
      · obtain ⟨y, h1, h2⟩ := crL_mem h
        exact ⟨y, List.mem_cons_of_mem _ h1, h2⟩
theorem crL_us {kp : Nat → Int} : ∀ {l : List (Int × Sm)} (i : Nat), (∀ x ∈ l, x.2.2 ≤ x.2.1.length) → usM (crL kp i l) ≤ usM l ∧ (crL kp i l).length ≤ l.length
  | [], i, _ => by simp [crL]
  | x :: r, i, h => by
    obtain ⟨h1, h2⟩ := crL_us (kp := kp) (l := r) (i + 1) (fun y hy => h y (List.mem_cons_of_mem _ hy))
    have hx := kpN_le (kp i) (h x List.mem_cons_self)
    rw [crL_cons]
    split
    · rw [usM_cons]
      simp only [List.length_cons]
      omega
    · rw [usM_cons, usM_cons]
      simp only [List.length_cons, List.length_take]
      omega

def celE (E : List (Int × Sv)) : List Value := E.flatMap fun x => [.int .i64 x.1, x.2.1, .int .i64 (x.2.2.2 : Int)]
theorem celE_cons (x : Int × Sv) (r : List (Int × Sv)) : celE (x :: r) = .int .i64 x.1 :: x.2.1 :: .int .i64 (x.2.2.2 : Int) :: celE r := rfl
theorem celE_app (a b : List (Int × Sv)) : celE (a ++ b) = celE a ++ celE b := List.flatMap_append
theorem celE_len : ∀ E : List (Int × Sv), (celE E).length = E.length * 3
  | [] => rfl
  | x :: r => by
    rw [celE_cons]
    simp only [List.length_cons, celE_len r]
    omega
theorem celE_at : ∀ {E : List (Int × Sv)} {i : Nat} (h : i < E.length), (celE E)[i * 3]? = some (.int .i64 (E[i]).1) ∧ (celE E)[i * 3 + 1]? = some (E[i]).2.1 ∧ (celE E)[i * 3 + 2]? = some (.int .i64 ((E[i]).2.2.2 : Int))
  | x :: r, 0, _ => ⟨rfl, rfl, rfl⟩
  | x :: r, i + 1, h => by
    have := celE_at (E := r) (i := i) (by simpa using h)
    rw [celE_cons]
    have e : (i + 1) * 3 = i * 3 + 3 := by omega
    rw [e]
    simpa using this
theorem oc_E {E : List (Int × Sv)} (h : ∀ x ∈ E, x.2.1.oneCell' = true) : ∀ u ∈ celE E, u.oneCell' = true := by
  intro u hu
  unfold celE at hu
  obtain ⟨x, hx, hu⟩ := List.mem_flatMap.1 hu
  simp only [List.mem_cons, List.not_mem_nil, or_false] at hu
  rcases hu with rfl | rfl | rfl
  · rfl
  · exact h x hx
  · rfl
/-- The document's segments: a row of them, and their bytes. -/
structure QR (w : World) (Y : Nat) (G : Nat → Prop) (Lv : Value) (E : List (Int × Sv)) : Prop where
  r : Ris E
  o : w.ownsRow 0 89 3 Lv E.length (celE E)
  oo : ∀ g, Lv.ownBlock = some g → G g ∧ g ≠ Y
  s : ∀ x ∈ E, Own w 0 5 x.2.1 x.2.2.1 ∧ ∀ q, x.2.1.ownBlock = some q → G q ∧ q ≠ Y ∧ Lv.ownBlock ≠ some q
theorem QR.keep {w w' : World} {Y : Nat} {G H : Nat → Prop} {Lv : Value} {E : List (Int × Sv)} (h : QR w Y G Lv E) (hk : ∀ b, G b → b ≠ Y → b < w.heap.size → w'.heap[b]? = w.heap[b]?) (hGH : ∀ j, j < w.heap.size → G j → H j) : QR w' Y H Lv E :=
  ⟨h.r, ownsRow_keep h.o (fun g hg => hk g (h.oo g hg).1 (h.oo g hg).2 (ownsRow_lt h.o g hg).2), fun g hg => ⟨hGH g (ownsRow_lt h.o g hg).2 (h.oo g hg).1, (h.oo g hg).2⟩,
    fun x hx => ⟨ownD_keep (h.s x hx).1 (fun g hg => hk g ((h.s x hx).2 g hg).1 ((h.s x hx).2 g hg).2.1 (ownsRow_lt (h.s x hx).1 g hg).2), fun g hg => ⟨hGH g (ownsRow_lt (h.s x hx).1 g hg).2 ((h.s x hx).2 g hg).1, ((h.s x hx).2 g hg).2⟩⟩⟩
theorem QR.on {w w' : World} {Y : Nat} {G : Nat → Prop} {Lv : Value} {E : List (Int × Sv)} (h : QR w Y G Lv E) (hb : Below w.heap.size w w') : QR w' Y G Lv E := h.keep (fun b _ _ hlt => hb.block b hlt) (fun _ _ h => h)
theorem QR.setY {w : World} {Y i : Nat} {G : Nat → Prop} {Lv : Value} {E : List (Int × Sv)} (h : QR w Y G Lv E) (u : Value) : QR (w.setCell ⟨Y, i, none⟩ u) Y G Lv E := h.keep (fun b _ hne _ => Below.heap_setCell _ _ _ _ (fun e => hne e)) (fun _ _ h => h)
/-- A segment's cells. -/
theorem QR.at {w : World} {Y : Nat} {G : Nat → Prop} {Lv : Value} {E : List (Int × Sv)} (h : QR w Y G Lv E) {i : Nat} (hi : i < E.length) : ∃ g cap, Lv = .slice (some ⟨g, 0, none⟩) E.length cap ∧ E.length ≤ cap ∧ cap ≤ maxLen ∧ g < w.heap.size ∧
    w.cell? ⟨g, i * 3, none⟩ = some (.int .i64 (E[i]).1) ∧ w.cell? ⟨g, i * 3 + 1, none⟩ = some (E[i]).2.1 ∧ w.cell? ⟨g, i * 3 + 2, none⟩ = some (.int .i64 ((E[i]).2.2.2 : Int)) := by
  have hc := fun g => World.ownsRow.cells h.o (g := g)
  obtain ⟨c0, c1, c2⟩ := celE_at hi
  rcases h.o.2 with ⟨_, h2⟩ | ⟨g, cap, cur, e, _, hg, h3, h4, _⟩
  · omega
  · have d0 := hc g (by rw [e]; rfl) _ _ c0
    have d1 := hc g (by rw [e]; rfl) _ _ c1
    have d2 := hc g (by rw [e]; rfl) _ _ c2
    rw [add_plain, Nat.zero_add] at d0 d1 d2
    exact ⟨g, cap, e, h3, h4, (Array.getElem?_eq_some_iff.1 hg).1, d0, d1, d2⟩
theorem QR.form {w : World} {Y : Nat} {G : Nat → Prop} {Lv : Value} {E : List (Int × Sv)} (h : QR w Y G Lv E) : ∃ a cap, Lv = .slice a E.length cap ∧ E.length ≤ cap ∧ cap ≤ maxLen := by
  rcases h.o.2 with ⟨h1, h2⟩ | ⟨g, cap, cur, h1, _, _, h3, h4, _⟩
  · exact ⟨none, 0, by rw [h1, h2], by omega, by simp [maxLen]⟩
  · exact ⟨_, _, h1, h3, h4⟩
/-- The document's disk in block Y, its memory in blocks of G. -/
def QDE (w : World) (Y : Nat) (G : Nat → Prop) (d : Dk) (Lv : Value) (E : List (Int × Sv)) : Prop := G Y ∧ mmE E = d.L ∧ QR w Y G Lv E ∧ Bn w Y [Lv, .int .i64 d.room, .int .i64 d.fuse, .bool d.dead]
def QD (w : World) (Y : Nat) (G : Nat → Prop) (d : Dk) : Prop := ∃ Lv E, QDE w Y G d Lv E
theorem QDE.keep {w w' : World} {Y : Nat} {G H : Nat → Prop} {d : Dk} {Lv : Value} {E : List (Int × Sv)} (h : QDE w Y G d Lv E) (hk : ∀ b, G b → b < w.heap.size → w'.heap[b]? = w.heap[b]?) (hGH : ∀ j, j < w.heap.size → G j → H j) : QDE w' Y H d Lv E :=
  ⟨hGH Y h.2.2.2.lt h.1, h.2.1, h.2.2.1.keep (fun b hb _ hlt => hk b hb hlt) hGH, h.2.2.2.blk (hk Y h.1 h.2.2.2.lt)⟩
theorem QDE.on {w w' : World} {Y : Nat} {G : Nat → Prop} {d : Dk} {Lv : Value} {E : List (Int × Sv)} (h : QDE w Y G d Lv E) (hb : Below w.heap.size w w') : QDE w' Y G d Lv E := h.keep (fun b _ hlt => hb.block b hlt) (fun _ _ h => h)
theorem QDE.clip {w : World} {Y : Nat} {G : Nat → Prop} {d : Dk} {Lv : Value} {E : List (Int × Sv)} (h : QDE w Y G d Lv E) : QDE w Y (cF G w) d Lv E := h.keep (fun _ _ _ => rfl) (fun j hj hG => ⟨hG, hj⟩)
theorem QD.keep {w w' : World} {Y : Nat} {G H : Nat → Prop} {d : Dk} (h : QD w Y G d) (hk : ∀ b, G b → b < w.heap.size → w'.heap[b]? = w.heap[b]?) (hGH : ∀ j, j < w.heap.size → G j → H j) : QD w' Y H d := by
  obtain ⟨Lv, E, h⟩ := h
  exact ⟨Lv, E, h.keep hk hGH⟩
theorem QD.lt {w : World} {Y : Nat} {G : Nat → Prop} {d : Dk} (h : QD w Y G d) : Y < w.heap.size := by
  obtain ⟨Lv, E, h⟩ := h
  exact h.2.2.2.lt
set_option maxHeartbeats 1000000 in
theorem qnew_any (w : World) (n : Int) : Calls Try.prog 10 #[.int .i64 n] w fun e w' => e = .returned (.pointer (some ⟨w.heap.size, 0, none⟩)) ∧ QD w' w.heap.size (fun j => j = w.heap.size) ⟨[], max n 0, -1, false⟩ ∧ Below w.heap.size w w' := by
  have hp : ∀ m : Int, m = max n 0 → QD (w.alloc (.cells #[.slice none 0 0, .int .i64 m, .int .i64 (-1), .bool false] 47)) w.heap.size (fun j => j = w.heap.size) ⟨[], max n 0, -1, false⟩ := fun m hm => by
    subst hm
    exact ⟨.slice none 0 0, [], rfl, rfl, ⟨List.Pairwise.nil, World.ownsRow_nil _ _ _ _, fun g hg => by simp [Value.ownBlock] at hg, fun x hx => absurd hx (by simp)⟩, Bn.new w [.slice none 0 0, .int .i64 (max n 0), .int .i64 (-1), .bool false] _ _ rfl⟩
  by_cases hn : n < 0
  · go_enter Try.func10, Try.ntmps10
    go_wp2
    go_ret
    exact ⟨rfl, hp _ (by omega), (Below.refl _ _).alloc (Nat.le_refl _) _⟩
  · go_enter Try.func10, Try.ntmps10
    go_wp2
    go_ret
    exact ⟨rfl, hp _ (by omega), (Below.refl _ _).alloc (Nat.le_refl _) _⟩
set_option maxHeartbeats 1000000 in
theorem qburn_any {w : World} {Y : Nat} {G : Nat → Prop} {d : Dk} {Lv : Value} {E : List (Int × Sv)} (h : QDE w Y G d Lv E) (hd : d.fuse ≤ 9223372036854775807) :
    Calls Try.prog 54 #[.pointer (some ⟨Y, 0, none⟩)] w fun e w' => e = .returned (.bool (decide (d.fuse ≠ 0))) ∧ QDE w' Y G (brn d) Lv E ∧ Kf G w w' := by
  obtain ⟨g1, g2, g3, g4⟩ := h
  obtain ⟨c2, f2⟩ := g4 2 _ rfl
  obtain ⟨c3, f3⟩ := g4 3 _ rfl
  by_cases h0 : d.fuse = 0
  · have e1 : brn d = { d with dead := true } := if_pos h0
    rw [e1, decide_eq_false (by simpa using h0)]
    go_enter Try.func54, Try.ntmps54
    go_wp2
    go_ret
    exact ⟨rfl, ⟨g1, g2, g3.setY _, g4.set (i := 3) (by simp) (.bool true)⟩, (Kf.refl G w).set g1 _⟩
  rw [decide_eq_true h0]
  by_cases h1 : 0 < d.fuse
  · have e1 : brn d = { d with fuse := d.fuse - 1 } := (if_neg h0).trans (if_pos h1)
    have hw : IntKind.i64.wrap (d.fuse - 1) = d.fuse - 1 := by rw [IntKind.wrap_i64]; omega
    have h1' : d.fuse > 0 := h1
    have hp := g4.set (i := 2) (by simp) (.int .i64 (d.fuse - 1))
    rw [e1]
    go_enter Try.func54, Try.ntmps54
    go_wp2
    go_ret
    exact ⟨rfl, ⟨g1, g2, g3.setY _, hp⟩, (Kf.refl G w).set g1 _⟩
  · have e1 : brn d = d := (if_neg h0).trans (if_neg h1)
    have h1' : ¬ d.fuse > 0 := h1
    rw [e1]
    go_enter Try.func54, Try.ntmps54
    go_wp2
    go_ret
    exact ⟨rfl, ⟨g1, g2, g3, g4⟩, Kf.refl G w⟩
/-- Which segment has that number. -/
def fI {β : Type} (n : Int) : List (Int × β) → Nat → Int
  | [], _ => -1
  | y :: r, k => if y.1 = n then (k : Int) else fI n r (k + 1)
theorem fI_no {β : Type} {n : Int} : ∀ {l : List (Int × β)} (k : Nat), lk n l = none → fI n l k = -1
  | [], _, _ => rfl
  | y :: r, k, h => by
    unfold lk at h
    unfold fI
    by_cases he : y.1 = n
    · rw [if_pos he] at h
      cases h
    · rw [if_neg he] at h
      rw [if_neg he]
      exact fI_no (k + 1) h
theorem fI_at {β : Type} {n : Int} {b : β} : ∀ {l : List (Int × β)} (k : Nat), lk n l = some b → ∃ (i : Nat) (h : i < l.length), fI n l k = ((k + i : Nat) : Int) ∧ l[i] = (n, b)
  | [], _, h => by simp [lk] at h
  | y :: r, k, h => by
    unfold lk at h
    unfold fI
    by_cases he : y.1 = n
    · rw [if_pos he] at h
      rw [if_pos he]
      obtain rfl := Option.some.inj h
      exact ⟨0, by simp, by simp, by rw [← he]; rfl⟩
    · rw [if_neg he] at h
      rw [if_neg he]
      obtain ⟨i, hi, h1, h2⟩ := fI_at (k + 1) h
      exact ⟨i + 1, by simpa using hi, by rw [h1]; omega, by simpa using h2⟩
set_option maxRecDepth 100000 in
set_option maxHeartbeats 2000000 in
theorem qfind_any {w : World} {Y : Nat} {G : Nat → Prop} {d : Dk} {Lv : Value} {E : List (Int × Sv)} (h : QDE w Y G d Lv E) (n : Int) :
    Calls Try.prog 55 #[.pointer (some ⟨Y, 0, none⟩), .int .i64 n] w fun e w' => e = .returned (.int .i64 (fI n E 0)) ∧ w = w' := by
  obtain ⟨g1, g2, g3, g4⟩ := h
  obtain ⟨c0, f0⟩ := g4 0 _ rfl
  obtain ⟨a, cap, rfl, hlc, hcm⟩ := g3.form
  unfold maxLen at hcm
  obtain ⟨R, hR⟩ : ∃ R, fI n E 0 = R := ⟨_, rfl⟩
  rw [hR]
  obtain ⟨m, hm⟩ : ∃ m, E.length = m := ⟨_, rfl⟩
  have HQ := hideD g3
  have HM := hideD hm
  have H0 := hideD (show fI n (E.drop 0) 0 = R from hR)
  rw [hm] at c0 hlc HQ
  clear g2 g3 g4 hR hm
  go_enter Try.func55, Try.ntmps55
  go_wp2
  go_loopw [11] (fun ix wr => ∃ (j : Nat), j ≤ m ∧ ix = .int .i64 (j : Int) ∧ w = wr ∧ Hid (fI n (E.drop j) j = R)) (fun ix _ => m - (RowKit.intOf ix).toNat)
  case atStart => exact ⟨0, Nat.zero_le _, rfl, rfl, H0⟩
  case round =>
    obtain ⟨j, hj, rfl, rfl, HF⟩ := hrel
    clear H0
    by_cases hlt : j < m
    · have hjl : j < E.length := by rw [HM.out]; exact hlt
      obtain ⟨g, cap', e, _, _, hgl, d0, _, _⟩ := QR.at HQ.out hjl
      simp only [Value.slice.injEq] at e
      have ha := e.1
      clear e
      subst ha
      have hfe := HF.out
      rw [List.drop_eq_getElem_cons hjl] at hfe
      unfold fI at hfe
      obtain ⟨x, hx⟩ : ∃ x, (E[j]).1 = x := ⟨_, rfl⟩
      rw [hx] at d0 hfe
      have k1 : (j : Int) < (m : Int) := by omega
      have k2 : (0 : Int) ≤ (j : Int) := by omega
      have HFE := hideD hfe
      clear hfe HF hx
      by_cases he : x = n
      · have := HFE.out
        rw [if_pos he] at this
        have HR := hideD this
        clear this HFE
        go_wp2
        go_ret
        exact ⟨by rw [← HR.out]; rfl, rfl⟩
      · go_wp2
        go_roundw
        case rel =>
          have := HFE.out
          rw [if_neg he] at this
          exact ⟨j + 1, hlt, by go_num, by first | rfl | trivial, this⟩
        case measure => simp [RowKit.intOf]; omega
    · have k1 : ¬ (j : Int) < (m : Int) := by omega
      have hR := HF.out
      have e : E.drop j = [] := List.drop_eq_nil_of_le (by rw [HM.out]; omega)
      rw [e] at hR
      have hR2 : (-1 : Int) = R := hR
      subst hR2
      clear HF hR e
      go_wp2
      go_ret
      exact ⟨rfl, rfl⟩

theorem QDE.us {w : World} {Y : Nat} {G : Nat → Prop} {d : Dk} {Lv : Value} {E : List (Int × Sv)} (h : QDE w Y G d Lv E) : mmE E = d.L := h.2.1
theorem usM_step {L : List (Int × Sm)} {j : Nat} (h : j < L.length) : usM (L.take (j + 1)) = usM (L.take j) + (L[j]).2.1.length := by
  rw [List.take_succ_eq_append_getElem h, usM_app2]
  simp [usM]
theorem usM_take_le (L : List (Int × Sm)) (j : Nat) : usM (L.take j) ≤ usM L := by
  have : usM L = usM (L.take j) + usM (L.drop j) := by rw [← usM_app2, List.take_append_drop]
  omega
set_option maxRecDepth 100000 in
set_option maxHeartbeats 2000000 in
theorem qused_any {w : World} {Y : Nat} {G : Nat → Prop} {d : Dk} {Lv : Value} {E : List (Int × Sv)} (h : QDE w Y G d Lv E) (hu : usM d.L ≤ 1000000) :
    Calls Try.prog 49 #[.pointer (some ⟨Y, 0, none⟩)] w fun e w' => e = .returned (.int .i64 (usM d.L : Int)) ∧ w = w' := by
  obtain ⟨g1, g2, g3, g4⟩ := h
  obtain ⟨c0, f0⟩ := g4 0 _ rfl
  obtain ⟨a, cap, rfl, hlc, hcm⟩ := g3.form
  unfold maxLen at hcm
  obtain ⟨m, hm⟩ : ∃ m, E.length = m := ⟨_, rfl⟩
  obtain ⟨U, hU⟩ : ∃ U, usM d.L = U := ⟨_, rfl⟩
  rw [hU] at hu ⊢
  have HQ := hideD g3
  have HM := hideD hm
  have HU := hideD hU
  have HL := hideD g2
  rw [hm] at c0 hlc HQ
  clear g2 g3 g4 hm hU
  go_enter Try.func49, Try.ntmps49
  go_wp2
  go_loopw [3, 10] (fun t ix wr => ∃ (j : Nat), j ≤ m ∧ ix = .int .i64 (j : Int) ∧ t = .int .i64 (usM (d.L.take j) : Int) ∧ w = wr) (fun _ ix _ => m - (RowKit.intOf ix).toNat)
  case atStart => exact ⟨0, Nat.zero_le _, rfl, by simp [usM], rfl⟩
  case round =>
    obtain ⟨j, hj, rfl, rfl, rfl⟩ := hrel
    by_cases hlt : j < m
    · have hjl : j < E.length := by rw [HM.out]; exact hlt
      have hdl : j < d.L.length := by rw [← HL.out]; simpa [mmE] using hjl
      obtain ⟨g, cap', e, _, _, hgl, _, d1, _⟩ := QR.at HQ.out hjl
      simp only [Value.slice.injEq] at e
      have ha := e.1
      clear e
      subst ha
      obtain ⟨ho, _⟩ := HQ.out.s _ (List.getElem_mem hjl)
      obtain ⟨sa, sc, hsv, hsl, hsm⟩ := slice_form ho
      rw [hsv] at d1
      have hst := usM_step hdl
      have hle := usM_take_le d.L (j + 1)
      rw [HU.out] at hle
      have hlen : (d.L[j]).2.1.length = (E[j]).2.2.1.length := by
        have : d.L[j] = (mmE E)[j]'(by simpa [mmE] using hjl) := by simp only [HL.out]
        rw [this]
        simp [mmE]
      rw [hlen] at hst
      obtain ⟨q, hq⟩ : ∃ q, (E[j]).2.2.1.length = q := ⟨_, rfl⟩
      rw [hq] at d1 hst hsl
      obtain ⟨s1, hs1⟩ : ∃ q, usM (d.L.take j) = q := ⟨_, rfl⟩
      obtain ⟨s2, hs2⟩ : ∃ q, usM (d.L.take (j + 1)) = q := ⟨_, rfl⟩
      rw [hs1, hs2] at hst
      rw [hs2] at hle
      rw [hs1]
      have k1 : (j : Int) < (m : Int) := by omega
      have k2 : (0 : Int) ≤ (j : Int) := by omega
      have hwr : wrap64 ((s1 : Int) + (q : Int)) = (s2 : Int) := by unfold wrap64; omega
      have H2 := hideD hs2
      clear ho hsv hsl hsm hst hle hlen hq hs1 hs2 hdl
      go_wp2
      rw [hwr]
      go_roundw
      case rel => exact ⟨j + 1, hlt, by go_num, by rw [H2.out], by first | rfl | trivial⟩
      case measure => simp [RowKit.intOf]; omega
    · have k1 : ¬ (j : Int) < (m : Int) := by omega
      have e : d.L.take j = d.L := List.take_of_length_le (by
        have h1 := HM.out
        have h2 : (mmE E).length = d.L.length := by rw [HL.out]
        simp [mmE] at h2
        omega)
      rw [e, HU.out]
      clear e
      go_wp2
      go_ret
      exact ⟨rfl, rfl⟩
theorem pt_set {β : Type} {n : Int} {b c : β} : ∀ {l : List (Int × β)}, Ris l → lk n l = some b → ∃ (i : Nat) (h : i < l.length), fI n l 0 = (i : Int) ∧ l[i] = (n, b) ∧ pt n c l = l.set i (n, c)
  | [], _, h => by simp [lk] at h
  | y :: r, hs, h => by
    obtain ⟨h1, h2⟩ := List.pairwise_cons.1 hs
    obtain ⟨i, hi, e1, e2⟩ := fI_at 0 h
    refine ⟨i, hi, by rw [e1]; simp, e2, ?_⟩
    unfold lk at h
    unfold fI at e1
    unfold pt
    by_cases he : y.1 = n
    · rw [if_neg (by omega), if_pos he]
      rw [if_pos he] at e1
      have : i = 0 := by omega
      subst this
      rfl
    · rw [if_neg he] at h
      have hm := h1 _ (lk_mem h)
      simp only at hm
      rw [if_neg (by omega), if_neg he]
      obtain ⟨i', hi', q1, q2, q3⟩ := pt_set (c := c) h2 h
      cases i with
      | zero => simp at e2; rw [e2] at he; exact absurd rfl he
      | succ k =>
        have hk : k = i' := by
          have a1 : r[k]'(by simpa using hi) = (n, b) := by simpa using e2
          have hr := List.pairwise_iff_getElem.1 h2
          rcases Nat.lt_trichotomy k i' with hl | hl | hl
          · have := hr k i' (by simpa using hi) hi' hl
            rw [a1, q2] at this
            simp at this
          · exact hl
          · have := hr i' k hi' (by simpa using hi) hl
            rw [a1, q2] at this
            simp at this
        subst hk
        rw [q3]
        rfl
theorem celE_set1 : ∀ {E : List (Int × Sv)} {i : Nat} (h : i < E.length) (v : Value) (bs : List Int), (celE E).set (i * 3 + 1) v = celE (E.set i ((E[i]).1, v, bs, (E[i]).2.2.2))
  | x :: r, 0, _, v, bs => rfl
  | x :: r, i + 1, h, v, bs => by
    have := celE_set1 (E := r) (i := i) (by simpa using h) v bs
    show ([.int .i64 x.1, x.2.1, .int .i64 (x.2.2.2 : Int)] ++ celE r).set ((i + 1) * 3 + 1) v = [.int .i64 x.1, x.2.1, .int .i64 (x.2.2.2 : Int)] ++ celE (r.set i ((r[i]'(by simpa using h)).1, v, bs, (r[i]'(by simpa using h)).2.2.2))
    rw [List.set_append_right _ _ (by simp; omega), ← this]
    congr 2
    simp
    omega

/-- A cell of the row of segments, written. -/
theorem QR.upd {w : World} {Y g off : Nat} {G H : Nat → Prop} {Lv u : Value} {E E' : List (Int × Sv)} (h : QR w Y G Lv E) (hg : Lv.ownBlock = some g) (ho : (w.setCell ⟨g, off, none⟩ u).ownsRow 0 89 3 Lv E'.length (celE E')) (hr : Ris E')
    (hm : ∀ x ∈ E', x ∈ E ∨ (Own w 0 5 x.2.1 x.2.2.1 ∧ ∀ q, x.2.1.ownBlock = some q → H q ∧ q ≠ Y ∧ q ≠ g)) (hGH : ∀ j, j < w.heap.size → G j → H j) : QR (w.setCell ⟨g, off, none⟩ u) Y H Lv E' := by
  have hset : ∀ b, b ≠ g → (w.setCell ⟨g, off, none⟩ u).heap[b]? = w.heap[b]? := fun b hb => Below.heap_setCell _ _ _ _ (fun e => hb e)
  refine ⟨hr, ho, fun q hq => ⟨hGH q (ownsRow_lt h.o q hq).2 (h.oo q hq).1, (h.oo q hq).2⟩, fun x hx => ?_⟩
  rcases hm x hx with hx | ⟨h1, h2⟩
  · obtain ⟨h1, h2⟩ := h.s x hx
    have hne : ∀ q, x.2.1.ownBlock = some q → q ≠ g := fun q hq e => (h2 q hq).2.2 (by rw [hg, e])
    exact ⟨ownD_keep h1 (fun q hq => hset q (hne q hq)), fun q hq => ⟨hGH q (ownsRow_lt h1 q hq).2 (h2 q hq).1, (h2 q hq).2⟩⟩
  · exact ⟨ownD_keep h1 (fun q hq => hset q (h2 q hq).2.2), fun q hq => ⟨(h2 q hq).1, (h2 q hq).2.1, fun e => by rw [hg] at e; exact (h2 q hq).2.2 (Option.some.inj e).symm⟩⟩
theorem opM_dead {d : Dk} {n : Int} {f : Sm → Dk} (h : d.dead = true) : opM d n f = (d, 8) := if_pos h
theorem opM_none {d : Dk} {n : Int} {f : Sm → Dk} (h : d.dead = false) (hk : lk n d.L = none) : opM d n f = (d, 5) := by
  unfold opM
  rw [if_neg (by simp [h]), hk]
theorem opM_burn {d : Dk} {n : Int} {f : Sm → Dk} {s : Sm} (h : d.dead = false) (hk : lk n d.L = some s) (hz : d.fuse = 0) : opM d n f = (brn d, 8) := by
  unfold opM
  rw [if_neg (by simp [h]), hk]
  exact if_pos hz
theorem opM_ok {d : Dk} {n : Int} {f : Sm → Dk} {s : Sm} (h : d.dead = false) (hk : lk n d.L = some s) (hz : ¬ d.fuse = 0) : opM d n f = (f s, 0) := by
  unfold opM
  rw [if_neg (by simp [h]), hk]
  exact if_neg hz

theorem ownf_form {w : World} {base e k n : Nat} {v : Value} {xs : List Value} (h : w.ownsRow base e k v n xs) : ∃ a cap, v = .slice a n cap ∧ n ≤ cap ∧ cap ≤ maxLen := by
  rcases h.2 with ⟨h1, h2⟩ | ⟨g, cap, cur, h1, _, _, h3, h4, _⟩
  · exact ⟨none, 0, by rw [h1, h2], by omega, by simp [maxLen]⟩
  · exact ⟨_, _, h1, h3, h4⟩
theorem seg_info : (Try.prog.info? 89).map (fun i => (i.zero, i.size, i.bytes)) = some (some (.agg #[.int .i64 0, .slice none 0 0, .int .i64 0]), 3, 40) := by kernel_rfl
theorem seg_inf : ∃ i, Try.prog.info? 89 = some i ∧ i.zero = some (.agg #[.int .i64 0, .slice none 0 0, .int .i64 0]) ∧ i.size = 3 ∧ i.bytes = 40 := by
  have h := seg_info
  cases hq : Try.prog.info? 89 with
  | none => rw [hq] at h; cases h
  | some i =>
    rw [hq] at h
    simp only [Option.map_some, Option.some.injEq, Prod.mk.injEq] at h
    exact ⟨i, rfl, h.1, h.2.1, h.2.2⟩
theorem celE_take (E : List (Int × Sv)) (i : Nat) : (celE E).take (i * 3) = celE (E.take i) := by
  by_cases h : i ≤ E.length
  · conv => lhs; rw [← List.take_append_drop i E, celE_app]
    rw [List.take_left' (by rw [celE_len, List.length_take]; omega)]
  · rw [List.take_of_length_le (by rw [celE_len]; omega), List.take_of_length_le (by omega)]
theorem celE_drop (E : List (Int × Sv)) (i : Nat) : (celE E).drop (i * 3) = celE (E.drop i) := by
  by_cases h : i ≤ E.length
  · conv => lhs; rw [← List.take_append_drop i E, celE_app]
    rw [List.drop_left' (by rw [celE_len, List.length_take]; omega)]
  · rw [List.drop_of_length_le (by rw [celE_len]; omega), List.drop_of_length_le (by omega)]
    rfl
/-- All cells of the row. -/
theorem QR.cells {w : World} {Y g cap n : Nat} {G : Nat → Prop} {E : List (Int × Sv)} (h : QR w Y G (.slice (some ⟨g, 0, none⟩) n cap) E) : ∀ j u, (celE E)[j]? = some u → w.cell? ⟨g, j, none⟩ = some u := fun j u hj => by
  have := World.ownsRow.cells h.o (g := g) rfl j u hj
  rwa [add_plain, Nat.zero_add] at this
theorem QR.one {w : World} {Y : Nat} {G : Nat → Prop} {Lv : Value} {E : List (Int × Sv)} (h : QR w Y G Lv E) : ∀ u ∈ celE E, u.oneCell' = true := oc_E (fun x hx => by
  obtain ⟨a, c, e, _, _⟩ := slice_form (h.s x hx).1
  rw [e]
  rfl)
/-- The first segments, as what is appended. -/
theorem src_take {w : World} {g i c : Nat} {E : List (Int × Sv)} (hc : ∀ j u, (celE E)[j]? = some u → w.cell? ⟨g, j, none⟩ = some u) (h1 : ∀ u ∈ celE E, u.oneCell' = true) (hi : i ≤ E.length) : Src Try.prog 3 45 (.slice (some ⟨g, 0, none⟩) i c) i (celE (E.take i)) w := by
  refine Src.ofSlice _ Try.underlying45 _ i c _ (by rw [celE_len, List.length_take]; omega) (fun j u hj => ?_) (fun u hu => h1 u ?_)
  · rw [add_plain, Nat.zero_add]
    refine hc j u ?_
    rw [← celE_take, List.getElem?_take] at hj
    split at hj
    · exact hj
    · cases hj
  · rw [← celE_take] at hu
    exact List.mem_of_mem_take hu
theorem src_drop {w : World} {g i c : Nat} {E : List (Int × Sv)} (hc : ∀ j u, (celE E)[j]? = some u → w.cell? ⟨g, j, none⟩ = some u) (h1 : ∀ u ∈ celE E, u.oneCell' = true) (hi : i ≤ E.length) : Src Try.prog 3 45 (.slice (some ⟨g, i * 3, none⟩) (E.length - i) c) (E.length - i) (celE (E.drop i)) w := by
  refine Src.ofSlice _ Try.underlying45 _ _ c _ (by rw [celE_len, List.length_drop]) (fun j u hj => ?_) (fun u hu => h1 u ?_)
  · rw [add_plain]
    refine hc _ u ?_
    rw [← celE_drop, List.getElem?_drop] at hj
    exact hj
  · rw [← celE_drop] at hu
    exact List.mem_of_mem_drop hu
theorem src_none {w : World} {g c : Nat} : Src Try.prog 3 45 (.slice (some ⟨g, 0, none⟩) 0 c) 0 [] w := Src.ofSlice _ Try.underlying45 _ 0 c _ rfl (fun j u hj => by simp at hj) (fun u hu => by simp at hu)
set_option maxRecDepth 100000 in
set_option maxHeartbeats 4000000 in
theorem qdrop_any {w : World} {Y : Nat} {G : Nat → Prop} {d : Dk} {n : Int} (h0 : QD w Y G d) (hfu : d.fuse ≤ 9223372036854775807) (hl : d.L.length ≤ 100000) :
    Calls Try.prog 36 #[.pointer (some ⟨Y, 0, none⟩), .int .i64 n] w fun e w' => e = .returned (.int .i64 (opM d n (drpF d n)).2) ∧ QD w' Y (nF G w) (opM d n (drpF d n)).1 ∧ Kf G w w' := by
  obtain ⟨Lv, E, h⟩ := h0
  have hf := qfind_any h n
  have hbn := qburn_any h.clip hfu
  have hw : QD w Y (nF G w) d := ⟨Lv, E, h.keep (fun _ _ _ => rfl) (fun j _ hj => .inl hj)⟩
  obtain ⟨g1, g2, g3, g4⟩ := id h
  have hYw := g4.lt
  obtain ⟨c3, f3⟩ := g4 3 _ rfl
  have hlk := mmE_lk n E
  rw [g2] at hlk
  by_cases hd : d.dead = true
  · rw [opM_dead hd]
    rw [hd] at c3
    clear h g2 g3 g4 hlk hbn
    go_enter Try.func36, Try.ntmps36
    go_wp2_with (first
      | (go_at_call 55; refine hf.mono ?_; rintro e w2 ⟨rfl, rfl⟩; clear hf)
      | fail)
    go_ret
    exact ⟨rfl, hw, Kf.refl _ _⟩
  have hd : d.dead = false := by simpa using hd
  rw [hd] at c3
  cases hq : lk n E with
  | none =>
    rw [hq] at hlk
    rw [opM_none hd hlk]
    rw [fI_no 0 hq] at hf
    clear h g2 g3 g4 hlk hq hbn
    go_enter Try.func36, Try.ntmps36
    go_wp2_with (first
      | (go_at_call 55; refine hf.mono ?_; rintro e w2 ⟨rfl, rfl⟩; clear hf)
      | fail)
    go_ret
    exact ⟨rfl, hw, Kf.refl _ _⟩
  | some s =>
    rw [hq] at hlk
    simp only [Option.map_some] at hlk
    obtain ⟨i, hi, e1, e2⟩ := fI_at 0 hq
    rw [e1, Nat.zero_add] at hf
    have k3 : ¬ (i : Int) < 0 := by omega
    by_cases hz : d.fuse = 0
    · rw [opM_burn hd hlk hz]
      rw [decide_eq_false (by simpa using hz)] at hbn
      clear h g2 g3 g4 hlk hq e1 e2
      go_enter Try.func36, Try.ntmps36
      go_wp2_with (first
        | (go_at_call 55; refine hf.mono ?_; rintro e w2 ⟨rfl, rfl⟩; clear hf)
        | (go_at_call 54; refine hbn.mono ?_; rintro e w2 ⟨rfl, q1, q2⟩; clear hbn)
        | fail)
      go_ret
      exact ⟨rfl, ⟨Lv, E, q1.keep (fun _ _ _ => rfl) (fun j _ hj => .inl hj.1)⟩, q2.wide⟩
    · rw [opM_ok hd hlk hz]
      rw [decide_eq_true hz] at hbn
      obtain ⟨D, hD⟩ : ∃ D, drpF d n s.2 = D := ⟨_, rfl⟩
      rw [hD]
      have HD := hideD hD
      have hlE : E.length ≤ 100000 := by rw [← g2] at hl; simpa [mmE] using hl
      have hdl : dl n E = E.take i ++ E.drop (i + 1) := by
        have hr := List.pairwise_iff_getElem.1 g3.r
        conv => lhs; rw [← List.take_append_drop i E, List.drop_eq_getElem_cons hi, e2]
        unfold dl
        rw [List.filter_append, List.filter_cons]
        simp only [decide_true, Bool.not_true]
        congr 1
        · refine List.filter_eq_self.2 (fun x hx => ?_)
          obtain ⟨j, hj, rfl⟩ := List.getElem_of_mem hx
          rw [List.length_take] at hj
          have := hr j i (by omega) hi (by omega)
          rw [e2] at this
          simp at this ⊢
          omega
        · refine List.filter_eq_self.2 (fun x hx => ?_)
          obtain ⟨j, hj, rfl⟩ := List.getElem_of_mem hx
          rw [List.length_drop] at hj
          have := hr i (i + 1 + j) hi (by omega) (by omega)
          rw [e2] at this
          simp at this ⊢
          omega
      have HE := hideD (And.intro hdl (And.intro g2 g3.r))
      obtain ⟨g, cap, rfl, hlc, hcm, hgl, dd0, dd1, dd2⟩ := g3.at hi
      clear dd0 dd1 dd2
      have hgw := g3.oo g rfl
      unfold maxLen at hcm
      clear h g2 g3 g4 hlk hq e1 e2 hD hw hdl
      obtain ⟨i0, hi0, hz0, hz1, hz2⟩ := seg_inf
      go_enter Try.func36, Try.ntmps36
      go_upto_region 8 with (first
        | (go_at_call 55; refine hf.mono ?_; rintro e w2 ⟨rfl, rfl⟩; clear hf)
        | (go_at_call 54; refine hbn.mono ?_; rintro e w1 ⟨rfl, q1, q2⟩; clear hbn)
        | fail)
      have hsz := q2.size
      obtain ⟨p1, p2, p3, p4⟩ := q1
      obtain ⟨c0, f0⟩ := p4 0 _ rfl
      have hcl := p3.cells
      have hone := p3.one
      have HS1 := hideD (show ∀ W, Below w1.heap.size w1 W → Src Try.prog 3 45 (.slice (some ⟨g, 0, none⟩) i cap) i (celE (E.take i)) W from fun W hb => src_take (fun j u hj => (hb.cell (p := ⟨g, j, none⟩) (by show g < _; omega)).trans (hcl j u hj)) hone (by omega))
      obtain ⟨ln, hln⟩ : ∃ k, E.length = k := ⟨_, rfl⟩
      have hil : i < ln := by omega
      rw [hln] at c0 hlc hlE
      have i1 : (0 : Int) ≤ (i : Int) := by omega
      have i2 : (i : Int) < (ln : Int) := by omega
      have i4 : ¬ (i : Int) > (cap : Int) := by omega
      have i5 : (i : Int) ≤ (cap : Int) := by omega
      have i6 : ¬ (i : Int) + 1 > (ln : Int) := by omega
      have i7 : (i : Int) + 1 ≤ (ln : Int) := by omega
      have i8 : (ln : Int) ≤ (cap : Int) := by omega
      have i9 : IntKind.i64.wrap ((i : Int) + 1) = (i : Int) + 1 := by rw [IntKind.wrap_i64]; omega
      have HLN := hideD hln
      have HCL := hideD hcl
      have HONE := hideD hone
      have HP := hideD (And.intro p1 (And.intro p2 (And.intro p3 (And.intro p4 q2))))
      have hal : Below w1.heap.size w1 (w1.alloc (.cells #[] 89)).drew := ((Below.refl _ _).alloc (Nat.le_refl _) _).drew
      have hown : (w1.alloc (.cells #[] 89)).drew.ownsRow w1.heap.size 89 3 (.slice (some ⟨w1.heap.size, 0, none⟩) 0 0) 0 [] := World.ownsRow_made w1 #[] 0 (Nat.le_refl _) (Nat.zero_le _) rfl
      have C1 : (w1.alloc (.cells #[] 89)).drew.cell? ⟨Y, 0, none⟩ = some (.slice (some ⟨g, 0, none⟩) ln cap) := (hal.cell (p := ⟨Y, 0, none⟩) (by show Y < _; omega)).trans c0
      clear p1 p2 p3 p4 q2 hcl hone hi hln
      have hga1 : ∀ (wa : World), (w1.alloc (.cells #[] 89)).drew.grownBy wa (Value.slice (some ⟨w1.heap.size, 0, none⟩) 0 0).ownBlock → Below w1.heap.size w1 wa := fun wa hg => hal.grown hg (by show w1.heap.size ≤ (w1.alloc _).heap.size; simp) (fun k hk => by have : w1.heap.size = k := Option.some.inj hk; omega)
      have j0 : (0 : Int) ≤ (i : Int) + 1 := by omega
      obtain ⟨a2, ha2⟩ : ∃ a2, (if cap = i + 1 then some (⟨g, 0, none⟩ : Addr) else some ⟨g, (i + 1) * 3, none⟩) = a2 := ⟨_, rfl⟩
      have HS2 := hideD (show ∀ W, Below w1.heap.size w1 W → Src Try.prog 3 45 (.slice a2 (ln - (i + 1)) (cap - (i + 1))) (ln - (i + 1)) (celE (E.drop (i + 1))) W from fun W hb => by
        have hl2 := HLN.out
        rw [← ha2]
        by_cases hc : cap = i + 1
        · rw [if_pos hc]
          have e1 : ln - (i + 1) = 0 := by omega
          have e2 : E.drop (i + 1) = [] := List.drop_eq_nil_of_le (by omega)
          rw [e1, e2]
          exact src_none
        · rw [if_neg hc]
          have := src_drop (w := W) (g := g) (i := i + 1) (c := cap - (i + 1)) (E := E) (fun j u hj => (hb.cell (p := ⟨g, j, none⟩) (by show g < _; omega)).trans (HCL.out j u hj)) HONE.out (by omega)
          rw [hl2] at this
          exact this)
      have HFIN := hideD (show ∀ (vb : Value) (wb : World), wb.ownsRow w1.heap.size 89 3 vb (i + (ln - (i + 1))) (celE (E.take i) ++ celE (E.drop (i + 1))) → Below w1.heap.size w1 wb → wb.cell? ⟨Y, 0, none⟩ = some (.slice (some ⟨g, 0, none⟩) ln cap) ∧ wb.frozen? ⟨Y, 0, none⟩ = false ∧ QD (wb.setCell ⟨Y, 0, none⟩ vb) Y (nF G w) D ∧ Kf G w (wb.setCell ⟨Y, 0, none⟩ vb) from fun vb wb hO hb => by
        obtain ⟨p1, p2, p3, p4, q2⟩ := HP.out
        obtain ⟨hdl, hmm, hris⟩ := HE.out
        have hl2 := HLN.out
        have hset : ∀ b, b ≠ Y → (wb.setCell ⟨Y, 0, none⟩ vb).heap[b]? = wb.heap[b]? := fun b hb => Below.heap_setCell _ _ _ _ (fun e => hb e)
        have hlo := World.ownsRow.lt hO
        have hlen : (dl n E).length = i + (ln - (i + 1)) := by rw [hdl, List.length_append, List.length_take, List.length_drop]; omega
        refine ⟨(hb.cell (p := ⟨Y, 0, none⟩) (by show Y < _; omega)).trans c0, (hb.frozen (p := ⟨Y, 0, none⟩) (by show Y < _; omega)).trans f0, ⟨vb, dl n E, .inl g1, ?_, ⟨ris_dl hris, ?_, fun q hq => ?_, fun x hx => ?_⟩, ?_⟩, ?_⟩
        · rw [← mmE_dl, hmm, ← HD.out]
          rfl
        · rw [hlen, hdl, celE_app]
          exact ownsRow_keep ⟨hO.1, hO.2.imp id (fun ⟨a, b, c, e1, e2, e3⟩ => ⟨a, b, c, e1, Nat.zero_le _, e3⟩)⟩ (fun q hq => hset q (by have := (hlo q hq).1; omega))
        · have := (hlo q hq).1
          exact ⟨.inr (by omega), by omega⟩
        · obtain ⟨h1, h2⟩ := p3.s x (mem_dl.1 hx).1
          have hxl := fun q hq => (ownsRow_lt h1 q hq).2
          refine ⟨ownD_keep h1 (fun q hq => (hset q (h2 q hq).2.1).trans (hb.block q (hxl q hq))), fun q hq => ⟨.inl (h2 q hq).1.1, (h2 q hq).2.1, fun e => ?_⟩⟩
          have := (hlo q e).1
          have := hxl q hq
          omega
        · have := ((p4.on hb).set (i := 0) (by simp) vb)
          rw [← HD.out]
          exact this
        · exact ((q2.wide).trans (Kf.of hb (Nat.le_refl _))).set g1 _)
      clear hgw
      go_region_law (first
        | (refine step_append_at _ (by rfl) (.tmp 22) (.tmp 28) 45 45 (by rfl) w1.heap.size 89 i0 (.agg #[.int .i64 0, .slice none 0 0, .int .i64 0]) 3 40 Try.underlying45 hi0 hz0 hz1 hz2 rfl (.slice (some ⟨w1.heap.size, 0, none⟩) 0 0) 0 [] (by rfl) hown _ i (celE (E.take i)) (by rfl) (HS1.out _ hal) i (.inr (by omega)) (Nat.le_refl _) (by unfold maxLen; omega) (by show w1.heap.size ≤ (w1.alloc _).heap.size; simp) ?_; intro va wa hOa hga hata; rw [Nat.zero_add, List.nil_append] at hOa; obtain ⟨a1, c1, rfl, hl1, hm1⟩ := ownf_form hOa; have hba := hga1 wa hga; have C2 := (hba.cell (p := ⟨Y, 0, none⟩) (by show Y < _; omega)).trans c0)
        | (refine step_append_at _ (by rfl) (.tmp 29) (.tmp 36) 45 45 (by rfl) w1.heap.size 89 i0 (.agg #[.int .i64 0, .slice none 0 0, .int .i64 0]) 3 40 Try.underlying45 hi0 hz0 hz1 hz2 rfl (.slice a1 i c1) i (celE (E.take i)) (by rfl) hOa _ (ln - (i + 1)) (celE (E.drop (i + 1))) (by rfl) (HS2.out _ hba) (ln - (i + 1)) (.inr (by omega)) (Nat.le_refl _) (by unfold maxLen; omega) hba.size ?_; intro vb wb hOb hgb hatb; obtain ⟨a3, c3', rfl, hl3, hm3⟩ := ownf_form hOb; obtain ⟨C3, F3, HZ⟩ := HFIN.out _ _ hOb (hba.grown hgb hba.size (fun k hk => (World.ownsRow.lt hOa k hk).1)); have HZ := hideD HZ)
        | fail)
      all_goals
        go_wp2
        go_ret
        exact ⟨rfl, HZ.out⟩

theorem pt_ins {β : Type} {n : Int} {b : β} : ∀ {A R : List (Int × β)}, (∀ a ∈ A, a.1 < n) → (∀ a ∈ R, n < a.1) → pt n b (A ++ R) = A ++ (n, b) :: R
  | [], [], _, _ => rfl
  | [], y :: r, _, h => by
    have := h y List.mem_cons_self
    simp only [List.nil_append]
    unfold pt
    rw [if_pos this]
  | a :: A, R, hA, hR => by
    have := hA a List.mem_cons_self
    rw [List.cons_append]
    unfold pt
    rw [if_neg (by omega), if_neg (by omega), pt_ins (fun x hx => hA x (List.mem_cons_of_mem _ hx)) hR]
    rfl
theorem pt_pt {β : Type} {n : Int} {b c : β} {l : List (Int × β)} (h : Ris l) : pt n b (pt n c l) = pt n b l := by
  rw [← pt_dl n b (ris_pt h), ← pt_dl n b h]
  congr 1
  have h1 := ris_pt (n := n) (b := c) h
  induction l with
  | nil => simp [pt, dl]
  | cons y r ih =>
    obtain ⟨q1, q2⟩ := List.pairwise_cons.1 h
    unfold pt
    split
    · simp [dl]
    · split
      · rename_i h2 h3
        simp [dl, h3]
      · rename_i h2 h3
        have := ih q2 (ris_pt q2)
        unfold dl at this ⊢
        rw [List.filter_cons, List.filter_cons, this]
/-- What the appending of bytes to a segment leaves. -/
theorem app_tail {w wt : World} {Y g i ln cap' : Nat} {G : Nat → Prop} {d1 : Dk} {n : Int} {E1 : List (Int × Sv)} {sv : Value} {sb bs : List Int} {sn : Nat} (hQ : QDE wt Y (nF G w) d1 (.slice (some ⟨g, 0, none⟩) ln cap') E1) (hk : Kf G w wt) (hYw : Y < w.heap.size) (hi : i < E1.length) (he : E1[i] = (n, sv, sb, sn)) (hlk : lk n E1 = some (sv, sb, sn)) :
    ∀ (vb : Value) (wb : World), wb.ownsRow wt.heap.size 5 1 vb (sb.length + bs.length) (sb.map (Value.int .u8) ++ bs.map (Value.int .u8)) → Below wt.heap.size wt wb →
      wb.cell? ⟨g, i * 3 + 1, none⟩ = some sv ∧ wb.frozen? ⟨g, i * 3 + 1, none⟩ = false ∧ QD (wb.setCell ⟨g, i * 3 + 1, none⟩ vb) Y (nF G w) { d1 with L := pt n (sb ++ bs, sn) d1.L } ∧ Kf G w (wb.setCell ⟨g, i * 3 + 1, none⟩ vb) := fun vb wb hO hb => by
  obtain ⟨r1, r2, r3, r4⟩ := hQ.on hb
  have hll : ln = E1.length := by
    obtain ⟨a, c, e, _, _⟩ := r3.form
    simp only [Value.slice.injEq] at e
    exact e.2.1
  subst hll
  obtain ⟨_, _, e', _, _, hgl, d0, d1', d2⟩ := r3.at hi
  simp only [Value.slice.injEq, Option.some.injEq, Addr.mk.injEq] at e'
  obtain ⟨⟨eg, _⟩, _, _⟩ := e'
  rw [← eg, he] at d1'
  have hgw := r3.oo g rfl
  have hgt : g < wt.heap.size := (ownsRow_lt hQ.2.2.1.o g rfl).2
  have hst2 := (World.ownsRow.stored r3.o (i * 3 + 1) vb).1
  rw [celE_set1 hi _ (sb ++ bs), he] at hst2
  simp only at hst2
  obtain ⟨i', hi', f1, f2, f3⟩ := pt_set (c := (vb, sb ++ bs, sn)) r3.r hlk
  have hii : i' = i := by
    have hr := List.pairwise_iff_getElem.1 r3.r
    rcases Nat.lt_trichotomy i' i with hl | hl | hl
    · have := hr i' i hi' hi hl
      rw [f2, he] at this
      simp at this
    · exact hl
    · have := hr i i' hi hi' hl
      rw [f2, he] at this
      simp at this
  subst hii
  rw [← f3] at hst2
  have hlen : (pt n (vb, sb ++ bs, sn) E1).length = E1.length := by rw [f3, List.length_set]
  have hlo := World.ownsRow.lt hO
  have hsz := hk.size
  refine ⟨d1', World.ownsRow.frozenAt r3.o _, ⟨_, _, r1, ?_, r3.upd rfl (by rw [hlen]; exact hst2) (ris_pt r3.r) (fun x hx => ?_) (fun _ _ h => h), ?_⟩, ?_⟩
  · rw [mmE_pt, r2]
  · rcases mem_pt r3.r hx with rfl | ⟨hx, _⟩
    · refine .inr ⟨?_, fun z hz => ?_⟩
      · unfold Own
        rw [List.length_append, List.map_append]
        exact ⟨hO.1, hO.2.imp id (fun ⟨a, b, c, e1, e2, e3⟩ => ⟨a, b, c, e1, Nat.zero_le _, e3⟩)⟩
      · have := (hlo z hz).1
        exact ⟨.inr (by omega), by omega, by omega⟩
    · exact .inl hx
  · exact r4.far hgw.2 (i := i' * 3 + 1) vb
  · have hkb := hk.trans (Kf.of hb (Nat.le_refl _))
    rcases hgw.1 with hG | hn
    · exact hkb.set hG _
    · exact hkb.setNew hn _
/-- A new segment among those that are there. -/
theorem app_ins {w w1 : World} {Y j : Nat} {G : Nat → Prop} {d1 : Dk} {n : Int} {E : List (Int × Sv)} {Lv : Value} (hQ : QDE w1 Y (cF G w) d1 Lv E) (hk : Kf (cF G w) w w1) (hno : lk n E = none) (hj : j ≤ E.length) (h1 : ∀ k (h : k < E.length), k < j → (E[k]).1 < n) (h2 : ∀ h : j < E.length, n < (E[j]).1) :
    ∀ (vb : Value) (wb : World), wb.ownsRow w1.heap.size 89 3 vb (j + 1 + (E.length - j)) (celE (E.take j) ++ celE [(n, zC)] ++ celE (E.drop j)) → Below w1.heap.size w1 wb →
      (∃ u, wb.cell? ⟨Y, 0, none⟩ = some u) ∧ wb.frozen? ⟨Y, 0, none⟩ = false ∧ QDE (wb.setCell ⟨Y, 0, none⟩ vb) Y (nF G w) { d1 with L := pt n ([], 0) d1.L } vb (pt n zC E) ∧ Kf G w (wb.setCell ⟨Y, 0, none⟩ vb) ∧ lk n (pt n zC E) = some zC ∧ (pt n zC E).length = E.length + 1 ∧ ∃ h : j < (pt n zC E).length, (pt n zC E)[j] = (n, zC) := fun vb wb hO hb => by
  obtain ⟨p1, p2, p3, p4⟩ := hQ
  have hr := List.pairwise_iff_getElem.1 p3.r
  have hA : ∀ a ∈ E.take j, a.1 < n := fun a ha => by
    obtain ⟨k, hk, rfl⟩ := List.getElem_of_mem ha
    rw [List.length_take] at hk
    rw [List.getElem_take]
    exact h1 k (by omega) (by omega)
  have hR : ∀ a ∈ E.drop j, n < a.1 := fun a ha => by
    obtain ⟨k, hk, rfl⟩ := List.getElem_of_mem ha
    rw [List.length_drop] at hk
    rw [List.getElem_drop]
    have hjl : j < E.length := by omega
    have h3 := h2 hjl
    rcases Nat.eq_zero_or_pos k with rfl | hk0
    · exact h3
    · have := hr j (j + k) hjl (by omega) (by omega)
      omega
  have hpt : pt n zC E = E.take j ++ (n, zC) :: E.drop j := by
    conv => lhs; rw [← List.take_append_drop j E]
    exact pt_ins hA hR
  have hlt : (E.take j).length = j := by rw [List.length_take]; omega
  have hlen : (pt n zC E).length = j + 1 + (E.length - j) := by rw [hpt, List.length_append, hlt, List.length_cons, List.length_drop]; omega
  have hset : ∀ b, b ≠ Y → (wb.setCell ⟨Y, 0, none⟩ vb).heap[b]? = wb.heap[b]? := fun b hb => Below.heap_setCell _ _ _ _ (fun e => hb e)
  have hlo := World.ownsRow.lt hO
  have hsz := hk.size
  have hYl := p4.lt
  have hYw := p1.2
  have hb4 := p4.on hb
  refine ⟨⟨_, (hb4 0 _ rfl).1⟩, (hb4 0 _ rfl).2, ⟨.inl p1.1, ?_, ⟨ris_pt p3.r, ?_, fun q hq => ?_, fun x hx => ?_⟩, hb4.set (i := 0) (by simp) vb⟩, ((hk.wide.trans (Kf.of hb (Nat.le_refl _))).set p1.1 _), ?_, by omega, ?_⟩
  · rw [mmE_pt, p2]
    rfl
  · rw [hlen, hpt, celE_app]
    have e : celE ((n, zC) :: E.drop j) = celE [(n, zC)] ++ celE (E.drop j) := rfl
    rw [e, ← List.append_assoc]
    exact ownsRow_keep ⟨hO.1, hO.2.imp id (fun ⟨a, b, c, e1, e2, e3⟩ => ⟨a, b, c, e1, Nat.zero_le _, e3⟩)⟩ (fun q hq => hset q (by have := (hlo q hq).1; omega))
  · have := (hlo q hq).1
    exact ⟨.inr (by omega), by omega⟩
  · rcases mem_pt p3.r hx with rfl | ⟨hx, _⟩
    · exact ⟨World.ownsRow_nil _ 0 5 1, fun q hq => by simp [zC, Value.ownBlock] at hq⟩
    · obtain ⟨s1, s2⟩ := p3.s x hx
      have hxl := fun q hq => (ownsRow_lt s1 q hq).2
      refine ⟨ownD_keep s1 (fun q hq => (hset q (s2 q hq).2.1).trans (hb.block q (hxl q hq))), fun q hq => ⟨.inl (s2 q hq).1.1, (s2 q hq).2.1, fun e => ?_⟩⟩
      have := (hlo q e).1
      have := hxl q hq
      omega
  · exact lk_of (ris_pt p3.r) (by rw [hpt]; simp)
  · refine ⟨by omega, ?_⟩
    simp only [hpt]
    rw [List.getElem_append_right (by omega)]
    simp [hlt]

theorem QDE.usq {w : World} {Y : Nat} {G : Nat → Prop} {d : Dk} {Lv : Value} {E : List (Int × Sv)} (h : QDE w Y G d Lv E) (hu : usM d.L ≤ 1000000) : ∀ m, Calls Try.prog 49 #[.pointer (some ⟨Y, 0, none⟩)] (w.drewN m) fun e w' => e = .returned (.int .i64 (usM d.L : Int)) ∧ ∃ k, w' = w.drewN k :=
  fun m => (qused_any (w := w.drewN m) (h.keep (fun _ _ _ => rfl) (fun _ _ h => h)) hu).mono (fun e w' hh => ⟨hh.1, m, hh.2.symm⟩)
theorem ins_at {n : Int} : ∀ {E : List (Int × Sv)}, Ris E → lk n E = none → ∃ J, J ≤ E.length ∧ (∀ k (h : k < E.length), k < J → (E[k]).1 < n) ∧ ∀ h : J < E.length, n < (E[J]).1
  | [], _, _ => ⟨0, Nat.le_refl _, fun k h => absurd h (by simp), fun h => absurd h (by simp)⟩
  | y :: r, hr, hq => by
    obtain ⟨h1, h2⟩ := List.pairwise_cons.1 hr
    unfold lk at hq
    by_cases he : y.1 = n
    · rw [if_pos he] at hq
      cases hq
    · rw [if_neg he] at hq
      by_cases hlt : y.1 < n
      · obtain ⟨J, q1, q2, q3⟩ := ins_at h2 hq
        refine ⟨J + 1, by simpa using q1, fun k hk hkJ => ?_, fun h => ?_⟩
        · cases k with
          | zero => exact hlt
          | succ k => exact q2 k (by simpa using hk) (by omega)
        · exact q3 (by simpa using h)
      · exact ⟨0, Nat.zero_le _, fun k _ h => absurd h (by omega), fun _ => by
          show n < y.1
          omega⟩
/-- The new segment, as what is appended. -/
theorem src_one (wa : World) (n : Int) : Src Try.prog 3 45 (.slice (some ⟨wa.heap.size, 0, none⟩) 1 1) 1 (celE [(n, zC)]) (wa.alloc (.cells #[.int .i64 n, .slice none 0 0, .int .i64 0] 89)) := by
  refine Src.ofSlice _ Try.underlying45 _ 1 1 _ rfl (fun j u hj => ?_) (fun u hu => ?_)
  · rw [add_plain, Nat.zero_add]
    have hB : Bn (wa.alloc (.cells #[.int .i64 n, .slice none 0 0, .int .i64 0] 89)) wa.heap.size [.int .i64 n, .slice none 0 0, .int .i64 0] := Bn.new wa [.int .i64 n, .slice none 0 0, .int .i64 0] _ _ rfl
    exact (hB j u hj).1
  · have : celE [(n, zC)] = [.int .i64 n, .slice none 0 0, .int .i64 0] := rfl
    rw [this] at hu
    simp only [List.mem_cons, List.not_mem_nil, or_false] at hu
    rcases hu with rfl | rfl | rfl <;> rfl
theorem src_nil1 {w : World} {j c : Nat} {E : List (Int × Sv)} (hj : j = 0) : Src Try.prog 3 45 (.slice none j c) j (celE (E.take j)) w := by
  subst hj
  rw [List.take_zero]
  exact Src.ofNil w Try.underlying45 c
theorem src_nil2 {w : World} {k c : Nat} {E : List (Int × Sv)} (hk : k = 0) (hE : E = []) : Src Try.prog 3 45 (.slice none k c) k (celE E) w := by
  subst hk
  subst hE
  exact Src.ofNil w Try.underlying45 c
set_option maxRecDepth 100000 in
set_option maxHeartbeats 4000000 in
theorem qapp_off {w : World} {Y : Nat} {G : Nat → Prop} {d : Dk} {n : Int} {v : Value} {bs : List Int} (h0 : QD w Y G d) (hfu : d.fuse ≤ 9223372036854775807) (hro : 0 ≤ d.room ∧ d.room ≤ 9223372036854775807)
    (hu : usM d.L ≤ 1000000) (hb : bs.length ≤ 1000000) (hv : Rd w v bs) (hoff : d.dead = true ∨ n < 0 ∨ (bs.length : Int) > d.room - (usM d.L : Int) ∨ d.fuse = 0) :
    Calls Try.prog 27 #[.pointer (some ⟨Y, 0, none⟩), .int .i64 n, v] w fun e w' => e = .returned (.int .i64 (appD d n bs).2) ∧ QD w' Y (nF G w) (appD d n bs).1 ∧ Kf G w w' := by
  obtain ⟨Lv, E, h⟩ := h0
  have hw : QD w Y (nF G w) d := ⟨Lv, E, h.keep (fun _ _ _ => rfl) (fun j _ hj => .inl hj)⟩
  have hus := h.usq hu
  obtain ⟨va, vc, rfl, hvl, hvm, _⟩ := id hv
  obtain ⟨g1, g2, g3, g4⟩ := id h
  have hYl := g4.lt
  obtain ⟨c1, f1⟩ := g4 1 _ rfl
  obtain ⟨c3, f3⟩ := g4 3 _ rfl
  unfold appD
  by_cases hd : d.dead = true
  · rw [if_pos hd]
    rw [hd] at c3
    clear h g2 g3 g4
    go_enter Try.func27, Try.ntmps27
    go_wp2
    go_ret
    exact ⟨rfl, hw, Kf.refl _ _⟩
  rw [if_neg hd]
  have hd' : d.dead = false := by simpa using hd
  rw [hd'] at c3
  by_cases hn0 : n < 0
  · rw [if_pos hn0]
    clear h g2 g3 g4
    go_enter Try.func27, Try.ntmps27
    go_wp2
    go_ret
    exact ⟨rfl, hw, Kf.refl _ _⟩
  rw [if_neg hn0]
  have hw1 : IntKind.i64.wrap (d.room - (usM d.L : Int)) = d.room - (usM d.L : Int) := by rw [IntKind.wrap_i64]; omega
  by_cases hr : (bs.length : Int) > d.room - (usM d.L : Int)
  · rw [if_pos hr]
    clear h g2 g3 g4
    go_enter Try.func27, Try.ntmps27
    go_wp2
    go_quiet (exact hus _)
    go_wp2
    go_ret
    exact ⟨rfl, hw.keep (fun _ _ _ => rfl) (fun _ _ h => h), (Kf.refl G w).drewN _⟩
  rw [if_neg hr]
  have hz : d.fuse = 0 := by
    rcases hoff with h | h | h | h
    · exact absurd h hd
    · exact absurd h hn0
    · exact absurd h hr
    · exact h
  have hC := h.clip
  have hbn := fun m => qburn_any (w := w.drewN m) (hC.keep (fun _ _ _ => rfl) (fun _ _ h => h)) hfu
  rw [if_pos hz]
  simp only [decide_eq_false (show ¬ d.fuse ≠ 0 by simpa using hz)] at hbn
  have hkf := fun m => (Kf.refl (cF G w) w).drewN m
  clear h g2 g3 g4 hC
  go_enter Try.func27, Try.ntmps27
  go_wp2
  go_quiet (exact hus _)
  go_wp2_with (first
    | (go_at_call 54; refine (hbn _).mono ?_; rintro e w1 ⟨rfl, p1, k1⟩; clear hbn)
    | fail)
  go_ret
  exact ⟨rfl, ⟨Lv, E, p1.keep (fun _ _ _ => rfl) (fun j _ hj => .inl hj.1)⟩, ((hkf _).trans k1).wide⟩

set_option maxRecDepth 100000 in
set_option maxHeartbeats 8000000 in
theorem qapp_hit {w : World} {Y : Nat} {G : Nat → Prop} {d : Dk} {n : Int} {v : Value} {bs : List Int} {Lv : Value} {E : List (Int × Sv)} {s : Sv} (h : QDE w Y G d Lv E) (hfu : d.fuse ≤ 9223372036854775807) (hro : 0 ≤ d.room ∧ d.room ≤ 9223372036854775807)
    (hl : d.L.length ≤ 100000) (hu : usM d.L ≤ 1000000) (hb : bs.length ≤ 1000000) (hv : ∀ w1, Kf G w w1 → Rd w1 v bs) (hd : d.dead = false) (hn0 : ¬ n < 0) (hr : ¬ (bs.length : Int) > d.room - (usM d.L : Int)) (hz : ¬ d.fuse = 0) (hq : lk n E = some s) :
    Calls Try.prog 27 #[.pointer (some ⟨Y, 0, none⟩), .int .i64 n, v] w fun e w' => e = .returned (.int .i64 (appD d n bs).2) ∧ QD w' Y (nF G w) (appD d n bs).1 ∧ Kf G w w' := by
  have hus := h.usq hu
  obtain ⟨va, vc, rfl, hvl, hvm, _⟩ := id (hv w (Kf.refl G w))
  obtain ⟨g1, g2, g3, g4⟩ := id h
  have hYl := g4.lt
  obtain ⟨c1, f1⟩ := g4 1 _ rfl
  obtain ⟨c3, f3⟩ := g4 3 _ rfl
  rw [hd] at c3
  have hw1 : IntKind.i64.wrap (d.room - (usM d.L : Int)) = d.room - (usM d.L : Int) := by rw [IntKind.wrap_i64]; omega
  have hC := h.clip
  have hbn := fun m => qburn_any (w := w.drewN m) (hC.keep (fun _ _ _ => rfl) (fun _ _ h => h)) hfu
  simp only [decide_eq_true (show d.fuse ≠ 0 from hz)] at hbn
  have hkf := fun m => (Kf.refl (cF G w) w).drewN m
  obtain ⟨sv, sb, sn⟩ := s
  have hlk := mmE_lk n E
  rw [g2, hq] at hlk
  simp only [Option.map_some] at hlk
  have hD : appD d n bs = ({ brn d with L := pt n (sb ++ bs, sn) d.L }, 0) := by
    unfold appD
    rw [if_neg (by simp [hd]), if_neg hn0, if_neg hr, if_neg hz, hlk]
    rfl
  rw [hD]
  obtain ⟨D, hD2⟩ : ∃ D : Dk, { brn d with L := pt n (sb ++ bs, sn) d.L } = D := ⟨_, rfl⟩
  simp only [hD2]
  have HD := hideD hD2
  have hbL := hideD (brn_L d).1
  have hus0 := usM_lk (L := d.L) (n := n) (s := (sb, sn)) hlk
  have hlE : E.length ≤ 100000 := by rw [← g2] at hl; simpa [mmE] using hl
  obtain ⟨i, hi, e1, e2⟩ := fI_at 0 hq
  rw [Nat.zero_add] at e1
  obtain ⟨g, cap, rfl, hlc, hcm, hgl, dz0, d1, dz2⟩ := g3.at hi
  rw [e2] at d1
  simp only at d1
  obtain ⟨ho, hof⟩ := g3.s _ (List.getElem_mem hi)
  rw [e2] at ho hof
  simp only at ho hof
  obtain ⟨sa, sc, hsv, hsl, hsm⟩ := slice_form ho
  have HV := hideD hv
  have HQ := hideD hq
  have H2 := hideD e2
  have HI := hideD hi
  have k3 : ¬ (i : Int) < 0 := by omega
  have k2 : (i : Int) < (E.length : Int) := by omega
  have k1 : (0 : Int) ≤ (i : Int) := by omega
  obtain ⟨ln, hln⟩ : ∃ k, E.length = k := ⟨_, rfl⟩
  have hgw := (g3.oo g rfl).1
  have hgY := (g3.oo g rfl).2
  rw [hln] at k2 hlc hlE
  have HL := hideD hln
  clear dz0 dz2
  clear h g2 g3 g4 hC hlk hq hD hD2 hv e2 d1 hln ho hof
  go_enter Try.func27, Try.ntmps27
  go_wp2
  go_quiet (exact hus _)
  go_upto_region 18 with (first
    | (go_at_call 54; refine (hbn _).mono ?_; rintro e w1 ⟨rfl, p1, k1'⟩; clear hbn; have hf := qfind_any p1 n; rw [e1] at hf)
    | (go_at_call 55; refine hf.mono ?_; rintro e w2 ⟨rfl, rfl⟩; clear hf)
    | fail)
  have hK := ((hkf _).trans k1').wide
  have hsz := hK.size
  obtain ⟨p2, p3, p4, p5⟩ := id p1
  obtain ⟨c0, f0⟩ := p5 0 _ rfl
  obtain ⟨g', cap', e', _, _, hgl', _, d1, _⟩ := p4.at HI.out
  simp only [Value.slice.injEq, Option.some.injEq, Addr.mk.injEq] at e'
  obtain ⟨⟨rfl, _⟩, _, rfl⟩ := e'
  obtain ⟨ho, hof⟩ := p4.s _ (List.getElem_mem HI.out)
  rw [H2.out] at ho hof d1
  simp only at ho hof d1
  have hal : Below w1.heap.size w1 (w1.alloc (.cells #[] 5)).drew := ((Below.refl _ _).alloc (Nat.le_refl _) _).drew
  have hown : (w1.alloc (.cells #[] 5)).drew.ownsRow w1.heap.size 5 1 (.slice (some ⟨w1.heap.size, 0, none⟩) 0 0) 0 [] := World.ownsRow_made w1 #[] 0 (Nat.le_refl _) (Nat.zero_le _) rfl
  have HS1 := hideD ((rd_on ho.rd hal).src (t := 41) (e := 5) Try.underlying41)
  have HS2 := hideD (show ∀ W, Below w1.heap.size w1 W → Src Try.prog 1 41 (.slice va bs.length vc) bs.length (bs.map (Value.int .u8)) W from fun W hb => (HV.out W (hK.trans (Kf.of hb (Nat.le_refl _)))).src (t := 41) (e := 5) Try.underlying41)
  have HT := hideD (app_tail (bs := bs) (p1.keep (fun _ _ _ => rfl) (fun j _ hj => .inl hj.1)) hK hYl HI.out H2.out HQ.out)
  subst hsv
  rw [HL.out] at c0
  have C0 : (w1.alloc (.cells #[] 5)).drew.cell? ⟨Y, 0, none⟩ = some (.slice (some ⟨g, 0, none⟩) ln cap) := (hal.cell (p := ⟨Y, 0, none⟩) (by show Y < _; omega)).trans c0
  have D1 : (w1.alloc (.cells #[] 5)).drew.cell? ⟨g, i * 3 + 1, none⟩ = some (.slice sa sb.length sc) := (hal.cell (p := ⟨g, i * 3 + 1, none⟩) (by show g < _; omega)).trans d1
  have hga1 : ∀ (wa : World), (w1.alloc (.cells #[] 5)).drew.grownBy wa (Value.slice (some ⟨w1.heap.size, 0, none⟩) 0 0).ownBlock → Below w1.heap.size w1 wa := fun wa hg => hal.grown hg (by show w1.heap.size ≤ (w1.alloc _).heap.size; simp) (fun k hk => by have : w1.heap.size = k := Option.some.inj hk; omega)
  obtain ⟨j0, hj, hz0, hz1, hz2⟩ := u8_inf
  clear p1 p2 p3 p4 p5 ho hof hus hkf k1'
  go_region_law (first
    | (refine step_append_at _ (by rfl) (.tmp 87) (.tmp 95) 41 41 (by rfl) w1.heap.size 5 j0 (.int .u8 0) 1 1 Try.underlying41 hj hz0 hz1 hz2 rfl (.slice (some ⟨w1.heap.size, 0, none⟩) 0 0) 0 [] (by rfl) hown _ sb.length (sb.map (Value.int .u8)) (by rfl) HS1.out sb.length (.inr (by omega)) (Nat.le_refl _) (by unfold maxLen; omega) (by show w1.heap.size ≤ (w1.alloc _).heap.size; simp) ?_; intro va1 wa hOa hga hata; rw [Nat.zero_add, List.nil_append] at hOa; obtain ⟨a1, ac1, rfl, hl1, hm1⟩ := ownf_form hOa; have hba := hga1 wa hga; have C2 := (hba.cell (p := ⟨Y, 0, none⟩) (by show Y < _; omega)).trans c0)
    | (refine step_append_at _ (by rfl) (.tmp 96) (.tmp 97) 41 41 (by rfl) w1.heap.size 5 j0 (.int .u8 0) 1 1 Try.underlying41 hj hz0 hz1 hz2 rfl (.slice a1 sb.length ac1) sb.length (sb.map (Value.int .u8)) (by rfl) hOa _ bs.length (bs.map (Value.int .u8)) (by rfl) (HS2.out _ hba) bs.length (.inr (by omega)) (Nat.le_refl _) (by unfold maxLen; omega) hba.size ?_; intro vb wb hOb hgb hatb; obtain ⟨a3, c3', rfl, hl3, hm3⟩ := ownf_form hOb; have hbb := hba.grown hgb hba.size (fun k hk => (World.ownsRow.lt hOa k hk).1); have C3 := (hbb.cell (p := ⟨Y, 0, none⟩) (by show Y < _; omega)).trans c0; obtain ⟨D3, F3, HZ⟩ := HT.out _ _ hOb hbb; have HZ := hideD HZ)
    | fail)
  all_goals
    go_wp2
    go_ret
    refine ⟨rfl, ?_, HZ.out.2⟩
    have := HZ.out.1
    rw [← HD.out]
    have e := hbL.out
    rw [e] at this
    exact this
end Go.Proofs.Ytpblcahcpobicaa
