
/- A formed expression without reserved names can be printed, and is read as it was. Math alone. -/
import Derived.Test.YtdekboacjjpjeaaGdD
import Derived.Test.YtdekboacjjpjeaaExS
namespace Go.Proofs.Ytdekboacjjpjeaa
open Go.RowKit Go.Lib
set_option linter.unusedSimpArgs false
set_option linter.unusedVariables false

/-- The reserved words. -/
def rsv13 : List (List UInt8) := [[99, 104, 97, 114, 116], [118, 97, 114], [115, 116, 97, 116, 101], [97, 108, 108], [101, 110, 100], [100, 111], [117, 110, 100, 111], [97, 116], [114, 101, 116, 114, 105, 101, 115], [111, 110], [105, 102], [103, 111], [115, 101, 116]]
def rsvB (s : List UInt8) : Bool := rsv13.any (fun x => s == x)
/-- No Ref's name is reserved. -/
def plC : (d : Nat) → T d → Bool := fold (fun k _ s l => !(decide (k = 2) && rsvB s.data.toList) && l.all id)
theorem plC_mk {d : Nat} (k n : Int) (s : ByteArray) (ps : List (T d)) : plC (d + 1) (mkT k n s ps) = (!(decide (k = 2) && rsvB s.data.toList) && ps.all (plC d)) := by
  show (!(decide (k = 2) && rsvB s.data.toList) && (ps.map (plC d)).all id) = _
  rw [List.all_map]; rfl
/-- A number's digits. -/
def dcN (n : Int) : List UInt8 := decDigits n.toNat
theorem opr_opB {s : ByteArray} (h : opr s = true) : opB s.data.toList := by
  unfold opr ops9 at h
  simp only [List.any_cons, List.any_nil, Bool.or_false, Bool.or_eq_true, beq_iff_eq] at h
  exact h
theorem opB_lv {s : List UInt8} (h : opB s) : 1 ≤ lv s := by
  rcases h with rfl | rfl | rfl | rfl | rfl | rfl | rfl | rfl | rfl <;> decide
theorem lv_opB {s : List UInt8} (h : lv s ≠ 0) : opB s := by
  unfold lv at h
  unfold opB
  by_cases a : s = [124, 124]
  · simp [a]
  rw [if_neg a] at h
  by_cases b : s = [38, 38]
  · simp [b]
  rw [if_neg b] at h
  by_cases c : s = [60] ∨ s = [60, 61] ∨ s = [61, 61] ∨ s = [33, 61]
  · rcases c with c | c | c | c <;> simp [c]
  rw [if_neg c] at h
  by_cases e : s = [43] ∨ s = [45]
  · rcases e with e | e <;> simp [e]
  rw [if_neg e] at h
  by_cases g : s = [42]
  · simp [g]
  rw [if_neg g] at h
  exact absurd rfl h
theorem name_far {s : List UInt8} (h : nameS s = true) : lv s = 0 ∧ s ≠ [33] ∧ s ≠ [45] ∧ s ≠ [40] := by
  have key : ∀ c : UInt8, ∀ r : List UInt8, c.toNat < 128 → letter c.toNat = false → s ≠ c :: r := fun c r h8 hl e => by
    subst e
    unfold nameS at h
    simp only [Bool.and_eq_true] at h
    have h1 := h.1.1
    rw [nx_ascii h8, hl] at h1
    cases h1
  refine ⟨?_, key 33 [] (by decide) (by decide), key 45 [] (by decide) (by decide), key 40 [] (by decide) (by decide)⟩
  refine Classical.byContradiction (fun hl => ?_)
  rcases lv_opB hl with e | e | e | e | e | e | e | e | e
  · exact key 43 [] (by decide) (by decide) e
  · exact key 45 [] (by decide) (by decide) e
  · exact key 42 [] (by decide) (by decide) e
  · exact key 60 [] (by decide) (by decide) e
  · exact key 60 [61] (by decide) (by decide) e
  · exact key 61 [61] (by decide) (by decide) e
  · exact key 33 [61] (by decide) (by decide) e
  · exact key 38 [38] (by decide) (by decide) e
  · exact key 124 [124] (by decide) (by decide) e
theorem num_far {s : List UInt8} (h : numB s = true) : lv s = 0 ∧ s ≠ [33] ∧ s ≠ [45] ∧ s ≠ [40] := by
  have key : ∀ c : UInt8, ∀ r : List UInt8, dB c = false → s ≠ c :: r := fun c r hl e => by
    subst e
    unfold numB at h
    simp only [Bool.and_eq_true, List.all_cons] at h
    have h1 := h.1.2.1
    rw [hl] at h1
    cases h1
  refine ⟨?_, key 33 [] (by decide), key 45 [] (by decide), key 40 [] (by decide)⟩
  refine Classical.byContradiction (fun hl => ?_)
  rcases lv_opB hl with e | e | e | e | e | e | e | e | e
  · exact key 43 [] (by decide) e
  · exact key 45 [] (by decide) e
  · exact key 42 [] (by decide) e
  · exact key 60 [] (by decide) e
  · exact key 60 [61] (by decide) e
  · exact key 61 [61] (by decide) e
  · exact key 33 [61] (by decide) e
  · exact key 38 [38] (by decide) e
  · exact key 124 [124] (by decide) e
theorem okT_mk {nb : List UInt8 → Int} {rsv : List UInt8 → Bool} {dc : Int → List UInt8} {d : Nat} {k n : Int} {s : ByteArray} {ps : List (T d)} : okT nb rsv dc (d + 1) (mkT k n s ps) ↔ okF nb rsv dc k n s (ps.map (okT nb rsv dc d)) := Iff.rfl
theorem rtT_mk {dc : Int → List UInt8} {d : Nat} {k n : Int} {s : ByteArray} {ps : List (T d)} : rtT dc (d + 1) (mkT k n s ps) ↔ rtF dc k n s (ps.map (rtT dc d)) := Iff.rfl
/-- What is sound, without reserved names, has the words and the text that can be read. -/
theorem ok_sound : ∀ (d : Nat) (t : T d), Cl d t → sdC d t = true → plC d t = true → okT (valB 0) rsvB dcN d t ∧ rtT dcN d t
  | 0, t, _, _, _ => Empty.elim t
  | d + 1, t, hc, hs, hp => by
    rcases hc.cases with ⟨n, rfl⟩ | ⟨s, rfl⟩ | ⟨k, p, hk, rfl, hcp⟩ | ⟨s, p, q, rfl, hcp, hcq⟩ | rfl
    · rw [sdC_mk, if_pos rfl] at hs
      simp only [Bool.and_eq_true, decide_eq_true_eq] at hs
      have hn : numB (dcN n) = true := dd_num (by omega)
      obtain ⟨f1, f2, f3, f4⟩ := num_far hn
      have hv : valB 0 (dcN n) = n := by unfold dcN; rw [dd_val _ _ (Nat.le_refl _)]; omega
      exact ⟨okT_mk.2 ⟨fun _ => ⟨hv, f1, f2, f3, f4⟩, fun h => by simp at h, fun h => by simp at h, by decide, fun z hz => by cases hz⟩, rtT_mk.2 ⟨fun _ => hn, fun h => by simp at h, fun h => by simp at h, by decide, fun z hz => by cases hz⟩⟩
    · rw [sdC_mk, if_neg (by decide), if_pos rfl] at hs
      rw [plC_mk] at hp
      have hr : rsvB s.data.toList = false := by simpa using hp
      obtain ⟨f1, f2, f3, f4⟩ := name_far hs
      exact ⟨okT_mk.2 ⟨fun h => by simp at h, fun _ => ⟨hr, f1, f2, f3, f4⟩, fun h => by simp at h, by decide, fun z hz => by cases hz⟩, rtT_mk.2 ⟨fun h => by simp at h, fun _ => hs, fun h => by simp at h, by decide, fun z hz => by cases hz⟩⟩
    · have hsp : sdC d p = true := by
        rw [sdC_mk, if_neg (by omega), if_neg (by omega), if_pos hk] at hs
        simpa using hs
      have hpp : plC d p = true := by
        rw [plC_mk] at hp
        simp only [Bool.and_eq_true, List.all_cons, List.all_nil, Bool.and_true] at hp
        exact hp.2
      obtain ⟨a, b⟩ := ok_sound d p hcp hsp hpp
      refine ⟨okT_mk.2 ⟨fun h => by omega, fun h => by omega, fun h => by omega, by omega, fun z hz => ?_⟩, rtT_mk.2 ⟨fun h => by omega, fun h => by omega, fun h => by omega, by omega, fun z hz => ?_⟩⟩
      · obtain ⟨x, hx, rfl⟩ := List.mem_map.1 hz
        obtain rfl := List.mem_singleton.1 hx
        exact a
      · obtain ⟨x, hx, rfl⟩ := List.mem_map.1 hz
        obtain rfl := List.mem_singleton.1 hx
        exact b
    · have hs2 : opr s = true ∧ sdC d p = true ∧ sdC d q = true := by
        rw [sdC_mk, if_neg (by omega), if_neg (by omega), if_neg (by omega), if_pos rfl] at hs
        simpa using hs
      have hp2 : plC d p = true ∧ plC d q = true := by
        rw [plC_mk] at hp
        simpa using hp
      obtain ⟨a, b⟩ := ok_sound d p hcp hs2.2.1 hp2.1
      obtain ⟨a', b'⟩ := ok_sound d q hcq hs2.2.2 hp2.2
      have ho := opr_opB hs2.1
      refine ⟨okT_mk.2 ⟨fun h => by omega, fun h => by omega, fun _ => opB_lv ho, by omega, fun z hz => ?_⟩, rtT_mk.2 ⟨fun h => by omega, fun h => by omega, fun _ => ho, by omega, fun z hz => ?_⟩⟩
      · obtain ⟨x, hx, rfl⟩ := List.mem_map.1 hz
        rcases List.mem_cons.1 hx with rfl | hx
        · exact a
        · obtain rfl := List.mem_singleton.1 hx
          exact a'
      · obtain ⟨x, hx, rfl⟩ := List.mem_map.1 hz
        rcases List.mem_cons.1 hx with rfl | hx
        · exact b
        · obtain rfl := List.mem_singleton.1 hx
          exact b'
    · unfold none0 at hs
      rw [sdC_mk] at hs
      simp at hs
end Go.Proofs.Ytdekboacjjpjeaa
