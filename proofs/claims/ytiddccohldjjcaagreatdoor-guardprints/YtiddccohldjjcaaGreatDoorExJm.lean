
/- Names in their order. Math, and rows of texts. -/
import Derived.Test.YtiddccohldjjcaaGreatDoorRows
import Derived.Test.YtiddccohldjjcaaGreatDoorExS
namespace Go.Proofs.YtiddccohldjjcaaGreatDoor
open Go.RowKit Go.Lib
set_option linter.unusedSimpArgs false
set_option linter.unusedVariables false

def lss (a b : ByteArray) : Bool := Op.bytesLess a.toList b.toList
def lead (ls : List ByteArray) (s : ByteArray) : Nat := (ls.takeWhile (fun x => lss x s)).length
/-- A name into rising ones, once. -/
def adS (ls : List ByteArray) (s : ByteArray) : List ByteArray := if ls[lead ls s]? = some s then ls else ls.take (lead ls s) ++ [s] ++ ls.drop (lead ls s)
def cS (ls : List ByteArray) : List Value := ls.map .string
/-- The slice v, made by calls of ours, holds the texts ls. -/
def RdS (w : World) (v : Value) (ls : List ByteArray) : Prop := w.ownsRow 0 9 1 v ls.length (cS ls)
theorem rdS_nil (w : World) : RdS w (.slice none 0 0) [] := World.ownsRow_nil w 0 9 1
theorem RdS.below {w w' : World} {v : Value} {ls : List ByteArray} {B : Nat} (h : RdS w v ls) (hb : Below B w w') (hB : w.heap.size ≤ B) : RdS w' v ls := by
  refine ⟨h.1, ?_⟩
  rcases h.2 with hn | ⟨g, cap, cur, rfl, hbg, hg, rest⟩
  · exact .inl hn
  · exact .inr ⟨g, cap, cur, rfl, hbg, by rw [hb.block g (by have := (Array.getElem?_eq_some_iff.1 hg).1; omega)]; exact hg, rest⟩
theorem RdS.form {w : World} {v : Value} {ls : List ByteArray} (h : RdS w v ls) : (v = .slice none 0 0 ∧ ls = []) ∨ ∃ g cap, v = .slice (some ⟨g, 0, none⟩) ls.length cap ∧ ls.length ≤ cap ∧ cap ≤ maxLen ∧ ∀ (i : Nat) (hi : i < ls.length), w.cell? ⟨g, i, none⟩ = some (.string ls[i]) := by
  rcases h.2 with ⟨h1, h2⟩ | ⟨g, cap, cur, rfl, hb, hg, hnc, hcm, _⟩
  · exact .inl ⟨h1, List.eq_nil_of_length_eq_zero h2⟩
  · refine .inr ⟨g, cap, rfl, hnc, hcm, fun i hi => ?_⟩
    have h1 := World.ownsRow.cells h (g := g) rfl i (.string ls[i]) (by simp [cS, hi])
    have hp : (⟨g, 0, none⟩ : Addr).add i = ⟨g, i, none⟩ := by unfold Addr.add; split <;> simp_all
    rw [hp] at h1
    exact h1
theorem lead_le (ls : List ByteArray) (s : ByteArray) : lead ls s ≤ ls.length := by
  unfold lead
  exact (List.takeWhile_prefix _).length_le
theorem lead_of : ∀ (ls : List ByteArray) (s : ByteArray) (k : Nat), k ≤ ls.length → (∀ (i : Nat) (hi : i < ls.length), i < k → lss ls[i] s = true) → (∀ (hk : k < ls.length), lss ls[k] s = false) → lead ls s = k
  | [], s, k, hk, _, _ => by simp at hk; subst hk; rfl
  | x :: r, s, 0, hk, _, h2 => by
    have := h2 (by simp)
    simp only [List.getElem_cons_zero] at this
    simp [lead, List.takeWhile_cons, this]
  | x :: r, s, k + 1, hk, h1, h2 => by
    have hx := h1 0 (by simp) (by omega)
    simp only [List.getElem_cons_zero] at hx
    have ih := lead_of r s k (by simpa using hk) (fun i hi hik => by have := h1 (i + 1) (by simpa using hi) (by omega); simpa using this) (fun hk2 => by have := h2 (by simpa using hk2); simpa using this)
    unfold lead at ih ⊢
    rw [List.takeWhile_cons, if_pos hx, List.length_cons, ih]
theorem src_texts {P : Program} {t : TypeId} (ht : P.underlying t = some (.slice 9)) {w : World} {a : Addr} {n c : Nat} {ls : List ByteArray} (hl : ls.length = n) (h : ∀ (i : Nat) (hi : i < ls.length), w.cell? (a.add i) = some (.string ls[i])) : Src P 1 t (.slice (some a) n c) n (cS ls) w := by
  refine Src.ofSlice w ht a n c (cS ls) (by simp [cS, hl]) (fun j u hu => ?_) (fun u hu => ?_)
  · have hj : j < ls.length := by
      rcases Nat.lt_or_ge j ls.length with h | h
      · exact h
      · rw [List.getElem?_eq_none (by simp [cS]; omega)] at hu; cases hu
    have : u = .string ls[j] := by simpa [cS, hj] using hu.symm
    rw [this]; exact h j hj
  · obtain ⟨x, _, rfl⟩ := List.mem_map.1 hu
    rfl
theorem Tryz.infoStr : (Tryz.prog.info? 9).map (fun i => (i.zero, i.size, i.bytes)) = some (some (.string ⟨#[]⟩), 1, 16) := by kernel_rfl
theorem cS_append (a b : List ByteArray) : cS (a ++ b) = cS a ++ cS b := by simp [cS]
theorem add_plain1 (b off i : Nat) : (⟨b, off, none⟩ : Addr).add i = ⟨b, off + i, none⟩ := by unfold Addr.add; split <;> simp_all

theorem ownsRow_zero {w : World} {base e size : Nat} {v : Value} {n : Nat} {xs : List Value} (h : w.ownsRow base e size v n xs) : w.ownsRow 0 e size v n xs :=
  ⟨h.1, h.2.elim Or.inl (fun ⟨g, cap, cur, hv, hg, r⟩ => Or.inr ⟨g, cap, cur, hv, Nat.zero_le _, r⟩)⟩
end Go.Proofs.YtiddccohldjjcaaGreatDoor
