/- Slices of bytes in a seat: where one lies, its parts, its string; an empty one of the call's own; an append as a step of a region that draws. -/
import Derived.Test.YtlkhakcphdemjaaProg
import Derived.Test.YtlkhakcphdemjaaBytes
import Derived.Deep.RegionHeldLaw
import Derived.Deep.DrawnRows
import Derived.Lib.SlBytesConst
namespace Go.Proofs.Ytlkhakcphdemjaa
open Go.RowKit
set_option linter.unusedSimpArgs false
set_option linter.unusedVariables false

theorem Try.info5 : (Try.prog.info? 5).map (fun i => (i.zero, i.size, i.bytes)) = some (some (.int .u8 0), 1, 1) := by kernel_rfl

theorem src_one {P : Program} {t e : TypeId} (ht : P.underlying t = some (.slice e)) (w : World) (x : Int) :
    Src P 1 t (.slice (some ⟨w.heap.size, 0, none⟩) 1 1) 1 [Value.int .u8 x] (w.alloc (.cells #[.int .u8 x] e)) :=
  Src.ofSlice _ ht _ 1 1 _ (by simp) (cell_one_new _ _ _) (by simp [Value.oneCell'])

/-- A slice of bytes that isn't empty: where it lies. -/
theorem Rd.lies {w : World} {v : Value} {bs : List Int} (h : Rd w v bs) (hn : 0 < bs.length) :
    ∃ b off cap, v = .slice (some ⟨b, off, none⟩) bs.length cap ∧ bs.length ≤ cap ∧ cap ≤ maxLen ∧ ∀ i, i < bs.length → w.cell? ⟨b, off + i, none⟩ = some (.int .u8 (bs.getD i 0)) := by
  obtain ⟨a, cap, rfl, hc, hm, hnone, hcell⟩ := h
  cases a with
  | none => have := (hnone rfl).1; subst this; simp at hn
  | some x =>
    obtain ⟨b, off, spot⟩ := x
    have h0 := hcell _ rfl 0 hn
    have hspot : spot = none := by simpa [Addr.add] using World.cell?_spot h0
    subst hspot
    refine ⟨b, off, cap, rfl, hc, hm, fun i hi => ?_⟩
    have := hcell _ rfl i hi
    have hp : (⟨b, off, none⟩ : Addr).add i = ⟨b, off + i, none⟩ := by unfold Addr.add; split <;> simp_all
    rw [hp] at this
    exact this

theorem Rd.of_lies {w : World} {b off len cap : Nat} {bs : List Int} (hl : bs.length = len) (hc : len ≤ cap) (hm : cap ≤ maxLen) (h : ∀ i, i < len → w.cell? ⟨b, off + i, none⟩ = some (.int .u8 (bs.getD i 0))) :
    Rd w (.slice (some ⟨b, off, none⟩) len cap) bs := by
  subst hl
  refine ⟨_, cap, rfl, hc, hm, by simp, fun x hx i hi => ?_⟩
  obtain rfl := Option.some.inj hx
  have hp : (⟨b, off, none⟩ : Addr).add i = ⟨b, off + i, none⟩ := by unfold Addr.add; split <;> simp_all
  rw [hp]
  exact h i hi

theorem rd_conv {w : World} {v : Value} {xs : List Int} (h : Rd w v xs) : (convert 22 9 v).run Try.prog w = .ok (.string (strOfNums xs)) w :=
  h.convert Try.underlying22 Try.underlying5 Try.underlying9

theorem toList_ne {a b : ByteArray} (h : a.size ≠ b.size) : (a.toList == b.toList) = false := by
  rw [ByteArray.toList_eq, ByteArray.toList_eq]
  refine beq_eq_false_iff_ne.2 fun e => h ?_
  exact (congrArg List.length e : a.data.toList.length = b.data.toList.length)

theorem slice_to (b off len cap h : Nat) (hh : h ≤ cap) (w : World) :
    (Instr.slice 22 (.slice (some ⟨b, off, none⟩) len cap) none (some (.int .i64 (h : Int))) none).run Try.prog w = .ok (.slice (some ⟨b, off, none⟩) h cap) w := by
  have h1 : (0 : Int) ≤ (h : Int) := by omega
  have h2 : (h : Int) ≤ (cap : Int) := by omega
  go_simp

theorem rd_lit (w : World) (zs : List Int) (h : zs.length ≤ maxLen) : Rd (w.alloc (.cells (zs.map (Value.int .u8)).toArray 5)) (.slice (some ⟨w.heap.size, 0, none⟩) zs.length zs.length) zs := by
  have h1 := World.ownsRow_lit (base := w.heap.size) (e := 5) (size := 1) w (zs.map (Value.int .u8)).toArray zs.length (Nat.le_refl _) h (by simp)
  have h2 : Own (w.alloc (.cells (zs.map (Value.int .u8)).toArray 5)) w.heap.size 5 (.slice (some ⟨w.heap.size, 0, none⟩) zs.length zs.length) zs := by simpa [Own] using h1
  exact h2.rd

/-- A constant text as bytes: the block has its mark behind its last cell. -/
theorem rd_const (w : World) (zs : List Int) (h : zs.length ≤ maxLen) (fr : Nat × Nat) : Rd (w.alloc (.cells (zs.map (Value.int .u8)).toArray 5 fr)) (.slice (some ⟨w.heap.size, 0, none⟩) zs.length zs.length) zs := by
  refine Rd.of_lies rfl (Nat.le_refl _) h (fun i hi => ?_)
  rw [Nat.zero_add, World.cell?_alloc_mark]
  simp [List.getD, hi]
theorem conv_const (w : World) (C : Array Value) (n c : Nat) :
    (convert 22 22 (.slice (some ⟨w.heap.size, 0, none⟩) n c)).run Try.prog (w.alloc (.cells C 5)) = .ok (.slice (some ⟨w.heap.size, 0, none⟩) n c) (w.alloc (.cells C 5 (C.size, C.size + 1))) :=
  Lib.run_convert_bytes_const (P := Try.prog) w 22 5 C n c Try.underlying22 Try.underlying5

/-- A part of a slice of bytes. -/
theorem Rd.part {w : World} {b off len cap k n : Nat} {bs : List Int} (hl : bs.length = len) (h : ∀ i, i < len → w.cell? ⟨b, off + i, none⟩ = some (.int .u8 (bs.getD i 0))) (hc : len ≤ cap) (hm : cap ≤ maxLen) (hkn : k + n ≤ len) :
    Rd w (.slice (if cap = k then some ⟨b, off, none⟩ else some ⟨b, off + k, none⟩) n (cap - k)) ((bs.drop k).take n) := by
  have hln : ((bs.drop k).take n).length = n := by rw [List.length_take, List.length_drop]; omega
  by_cases h1 : cap = k
  · rw [if_pos h1]
    have : n = 0 := by omega
    subst this
    exact Rd.of_lies (by simp) (by omega) (by omega) (fun i hi => by omega)
  · rw [if_neg h1]
    refine Rd.of_lies hln (by omega) (by omega) (fun i hi => ?_)
    rw [show off + k + i = off + (k + i) by omega, h (k + i) (by omega)]
    simp [List.getD, hi]

theorem toNat_ex (n : Int) (h : ¬ n < 0) : ∃ m : Nat, n = (m : Int) := ⟨n.toNat, by omega⟩

theorem str_cat (xs ys : List Int) : strOfNums xs ++ strOfNums ys = strOfNums (xs ++ ys) := by
  apply ByteArray.ext
  simp [strOfNums, ByteArray.data_append]

theorem rd_nil (w : World) : Rd w (.slice none 0 0) [] := ⟨none, 0, rfl, by simp, by simp [maxLen], by simp, fun x hx => by cases hx⟩

/-- The first j bytes of a slice. -/
theorem Rd.first {w : World} {b off len cap j : Nat} {xs : List Int} (hl : xs.length = len) (h : Rd w (.slice (some ⟨b, off, none⟩) len cap) xs) (hj : j < len) : Rd w (.slice (some ⟨b, off, none⟩) j cap) (xs.take j) := by
  subst hl
  obtain ⟨b', off', cap', e, hc, hm, hcell⟩ := h.lies (by omega)
  simp only [Value.slice.injEq, Option.some.injEq, Addr.mk.injEq, and_true, true_and] at e
  obtain ⟨⟨rfl, rfl⟩, rfl⟩ := e
  have hlj : (xs.take j).length = j := by rw [List.length_take]; omega
  refine Rd.of_lies hlj (by omega) hm (fun i hi => ?_)
  rw [hcell i (by omega)]
  simp [List.getD, hi]

theorem slice_to_u (b off len cap h : Nat) (hh : h ≤ cap) (w : World) :
    (Instr.slice 22 (.slice (some ⟨b, off, none⟩) len cap) none (some (.int .u64 (h : Int))) none).run Try.prog w = .ok (.slice (some ⟨b, off, none⟩) h cap) w := by
  have h1 : (0 : Int) ≤ (h : Int) := by omega
  have h2 : (h : Int) ≤ (cap : Int) := by omega
  go_simp

theorem own_nil (w : World) : (w.alloc (.cells #[] 5)).ownsRow w.heap.size 5 1 (.slice (some ⟨w.heap.size, 0, none⟩) 0 0) 0 [] := World.ownsRow_lit w #[] 0 (Nat.le_refl _) (by simp [maxLen]) (by simp)

theorem rd_src {w : World} {v : Value} {xs : List Int} {m : Nat} (h : Rd w v xs) (hm : xs.length = m) (o : Obj) : Src Try.prog 1 22 v m (xs.map (Value.int .u8)) (w.alloc o) := by
  subst hm
  exact (h.below ((Below.refl _ _).alloc (Nat.le_refl _) o) (Nat.le_refl _)).src Try.underlying22

theorem bel_first {w w' : World} (hg : (w.alloc (.cells #[] 5)).grownBy w' (Value.ownBlock (.slice (some ⟨w.heap.size, 0, none⟩) 0 0))) : Below w.heap.size w w' :=
  ((Below.refl _ _).alloc (Nat.le_refl _) _).grown hg (by simp) (fun k hk => by simp [Value.ownBlock] at hk; omega)

theorem own_both {w : World} {base m : Nat} {v : Value} {xs ys : List Int} (hm : xs.length = m) (h : w.ownsRow base 5 1 v (m + ys.length) (xs.map (Value.int .u8) ++ ys.map (Value.int .u8))) : Own w base 5 v (xs ++ ys) := by
  subst hm
  unfold Own
  rw [List.length_append, List.map_append]
  exact h

theorem step_append_both {P : Program} (w : World) {ops : Array Oper} {o : Oper} {a : Act} {K : Act → World → Prop} {Q : Exit → Act → World → Prop} {E : Prop} (hgd : o.guard = none) (s x : Operand) (t tx : TypeId)
    (ho : o.op = .call { callee := .builtin .append, args := #[s, x], argTypes := #[t, tx] })
    (base : Nat) (e : TypeId) (i : TypeInfo) (z : Value) (size bytes : Nat) (ht : P.underlying t = some (.slice e)) (hi : P.info? e = some i) (hz : i.zero = some z)
    (hsize : i.size = size) (hby : i.bytes = bytes) (hzs : z.cells.size = size)
    (v : Value) (n : Nat) (xs : List Value) (hs : a.eval s = v) (hown : w.ownsRow base e size v n xs)
    (xv : Value) (m : Nat) (news : List Value) (hx : a.eval x = xv) (hsrc : Src P size tx xv m news w) (r : Nat) (hroom : Room bytes v n r) (hm : m ≤ r)
    (h63 : n + r ≤ maxLen) (hbase : base ≤ w.heap.size)
    (h : ∀ v' w', w'.ownsRow base e size v' (n + m) (xs ++ news) → w.grownBy w' v.ownBlock → Room bytes v' (n + m) (r - m) → K (a.put o.dst v') w') :
    if Region.wanted o (yielded ops a.tmps) = true then Oper.wp P o a w K Q else E := by
  have hw : Region.wanted o (yielded ops a.tmps) = true := by simp [Region.wanted, hgd]
  rw [if_pos hw]
  obtain ⟨v', w', hr, h2, h3, h4⟩ := run_append_both (P := P) w base t tx o.type e i z size bytes ht hi hz hsize hby hzs v n xs hown xv m news hsrc r hroom hm h63 hbase
  unfold Oper.wp execOp
  simp only [ho, resolve, invoke, builtin, Sem.run_bind, Sem.run_pure, Result.andThen_ok, List.map_toArray, List.map_cons, List.map_nil, hs, hx, hr]
  exact h v' w' h2 h3 h4

end Go.Proofs.Ytlkhakcphdemjaa
