/- Where a slice of bytes lies, its parts, its string. -/
import Derived.Test.YtdbfblkdjijmmaaNumW
namespace Go.Proofs.Ytdbfblkdjijmmaa
open Go.RowKit
set_option linter.unusedSimpArgs false
set_option linter.unusedVariables false

/-- A slice of bytes that isn't empty: where it lies. -/
theorem Rd.lies {w : World} {v : Value} {bs : List Int} (h : Rd w v bs) (hn : 0 < bs.length) :
    ∃ b off cap, v = .slice (some ⟨b, off, none⟩) bs.length cap ∧ bs.length ≤ cap ∧ cap ≤ maxLen ∧ ∀ i, i < bs.length → w.cell? ⟨b, off + i, none⟩ = some (.int .u8 (bs.getD i 0)) := by
  obtain ⟨a, cap, rfl, hc, hm, hnone, hcell⟩ := h
  cases a with
  | none => have := (hnone rfl).1; subst this; simp at hn
  | some x =>
    obtain ⟨b, off, spot⟩ := x
    have h0 := hcell _ rfl 0 hn
    have hspot : spot = none := by simpa [Addr.add] using World.cell?_spot h0
    subst hspot
    refine ⟨b, off, cap, rfl, hc, hm, fun i hi => ?_⟩
    have := hcell _ rfl i hi
    have hp : (⟨b, off, none⟩ : Addr).add i = ⟨b, off + i, none⟩ := by unfold Addr.add; split <;> simp_all
    rw [hp] at this
    exact this

theorem Rd.of_lies {w : World} {b off len cap : Nat} {bs : List Int} (hl : bs.length = len) (hc : len ≤ cap) (hm : cap ≤ maxLen) (h : ∀ i, i < len → w.cell? ⟨b, off + i, none⟩ = some (.int .u8 (bs.getD i 0))) :
    Rd w (.slice (some ⟨b, off, none⟩) len cap) bs := by
  subst hl
  refine ⟨_, cap, rfl, hc, hm, by simp, fun x hx i hi => ?_⟩
  obtain rfl := Option.some.inj hx
  have hp : (⟨b, off, none⟩ : Addr).add i = ⟨b, off + i, none⟩ := by unfold Addr.add; split <;> simp_all
  rw [hp]
  exact h i hi

/-- A round of the loop that takes a number's bytes: what comes of the number, and that it fits. -/
theorem sgn_round (ds : List Int) (hb : ∀ x ∈ ds, 0 ≤ x ∧ x ≤ 255) (k : Nat) (h : k < ds.length) (h8 : ds.length ≤ 8) (x : Int) (hx : x = ds.getD k 0) (N : Int) (hN : N = sgnF (sgn0 ds) (ds.take k)) :
    Hid (sgnF (sgn0 ds) (ds.take (k + 1)) = N * 256 + x) ∧ bits .or .i64 (N * 256) x = N * 256 + x ∧ -9223372036854775808 ≤ N * 256 + x ∧ N * 256 + x ≤ 9223372036854775807 ∧ -36028797018963968 ≤ N ∧ N ≤ 36028797018963967 := by
  have hx' : x = ds[k] := by rw [hx, getD_get _ _ h]
  have hxb : 0 ≤ x ∧ x ≤ 255 := by rw [hx']; exact hb _ (List.getElem_mem _)
  have hnext : sgnF (sgn0 ds) (ds.take (k + 1)) = N * 256 + x := by rw [take_snoc ds k h, sgnF_snoc, hN, hx']
  have hbd := sgn_small ds hb k h h8
  rw [hnext] at hbd
  refine ⟨hnext, ?_, by omega, by omega, by omega, by omega⟩
  rw [or_low N x hxb.1 (by omega), IntKind.wrap_i64]
  omega

/-- The bytes behind the first one, m of them. -/
theorem Rd.behind {w : World} {b off cap : Nat} {c : Int} {r : List Int} {m : Nat} (h : ∀ i, i < (c :: r).length → w.cell? ⟨b, off + i, none⟩ = some (.int .u8 ((c :: r).getD i 0))) (hc : (c :: r).length ≤ cap) (hm : cap ≤ maxLen) (hmr : m ≤ r.length) :
    Rd w (.slice (if cap = 1 then some ⟨b, off, none⟩ else some ⟨b, off + 1, none⟩) m (cap - 1)) (r.take m) := by
  have hl : (r.take m).length = m := by rw [List.length_take]; omega
  by_cases h1 : cap = 1
  · rw [if_pos h1]
    have : m = 0 := by simp at hc; omega
    subst this
    exact Rd.of_lies (by simp) (by omega) (by omega) (fun i hi => by omega)
  · rw [if_neg h1]
    refine Rd.of_lies hl (by simp at hc; omega) (by omega) (fun i hi => ?_)
    have := h (i + 1) (by simp; omega)
    rw [show off + 1 + i = off + (i + 1) by omega, this]
    simp [List.getD, hi]

theorem rd_conv {w : World} {v : Value} {xs : List Int} (h : Rd w v xs) : (convert 22 9 v).run Try.prog w = .ok (.string (strOfNums xs)) w :=
  h.convert Try.underlying22 Try.underlying5 Try.underlying9

theorem toList_ne {a b : ByteArray} (h : a.size ≠ b.size) : (a.toList == b.toList) = false := by
  rw [ByteArray.toList_eq, ByteArray.toList_eq]
  refine beq_eq_false_iff_ne.2 fun e => h ?_
  exact (congrArg List.length e : a.data.toList.length = b.data.toList.length)

theorem slice_to (b off len cap h : Nat) (hh : h ≤ cap) (w : World) :
    (Instr.slice 22 (.slice (some ⟨b, off, none⟩) len cap) none (some (.int .i64 (h : Int))) none).run Try.prog w = .ok (.slice (some ⟨b, off, none⟩) h cap) w := by
  have h1 : (0 : Int) ≤ (h : Int) := by omega
  have h2 : (h : Int) ≤ (cap : Int) := by omega
  go_simp

theorem rd_lit (w : World) (zs : List Int) (h : zs.length ≤ maxLen) : Rd (w.alloc (.cells (zs.map (Value.int .u8)).toArray 5)) (.slice (some ⟨w.heap.size, 0, none⟩) zs.length zs.length) zs := by
  have h1 := World.ownsRow_lit (base := w.heap.size) (e := 5) (size := 1) w (zs.map (Value.int .u8)).toArray zs.length (Nat.le_refl _) h (by simp)
  have h2 : Own (w.alloc (.cells (zs.map (Value.int .u8)).toArray 5)) w.heap.size 5 (.slice (some ⟨w.heap.size, 0, none⟩) zs.length zs.length) zs := by simpa [Own] using h1
  exact h2.rd

/-- A part of a slice of bytes. -/
theorem Rd.part {w : World} {b off len cap k n : Nat} {bs : List Int} (hl : bs.length = len) (h : ∀ i, i < len → w.cell? ⟨b, off + i, none⟩ = some (.int .u8 (bs.getD i 0))) (hc : len ≤ cap) (hm : cap ≤ maxLen) (hkn : k + n ≤ len) :
    Rd w (.slice (if cap = k then some ⟨b, off, none⟩ else some ⟨b, off + k, none⟩) n (cap - k)) ((bs.drop k).take n) := by
  have hln : ((bs.drop k).take n).length = n := by rw [List.length_take, List.length_drop]; omega
  by_cases h1 : cap = k
  · rw [if_pos h1]
    have : n = 0 := by omega
    subst this
    exact Rd.of_lies (by simp) (by omega) (by omega) (fun i hi => by omega)
  · rw [if_neg h1]
    refine Rd.of_lies hln (by omega) (by omega) (fun i hi => ?_)
    rw [show off + k + i = off + (k + i) by omega, h (k + i) (by omega)]
    simp [List.getD, hi]

theorem toNat_ex (n : Int) (h : ¬ n < 0) : ∃ m : Nat, n = (m : Int) := ⟨n.toNat, by omega⟩

theorem str_cat (xs ys : List Int) : strOfNums xs ++ strOfNums ys = strOfNums (xs ++ ys) := by
  apply ByteArray.ext
  simp [strOfNums, ByteArray.data_append]

theorem rd_nil (w : World) : Rd w (.slice none 0 0) [] := ⟨none, 0, rfl, by simp, by simp [maxLen], by simp, fun x hx => by cases hx⟩

end Go.Proofs.Ytdbfblkdjijmmaa
