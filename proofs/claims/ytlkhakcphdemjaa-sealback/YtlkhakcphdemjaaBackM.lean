/- What was sealed is opened as it was; cut off it lacks something; with one byte another it isn't opened. -/
import Derived.Test.YtlkhakcphdemjaaOpenR
namespace Go.Proofs.Ytlkhakcphdemjaa
open Go.RowKit
set_option linter.unusedSimpArgs false
set_option linter.unusedVariables false

theorem tv_tw {m : Int} (h : In16 m) (r : List Int) : tv (tw m ++ r) = m := by
  obtain ⟨h0, h1⟩ := h
  have e1 : IntKind.u8.wrap (m / 256) = m / 256 := by rw [IntKind.wrap_u8]; omega
  have e2 : IntKind.u8.wrap m = m % 256 := by rw [IntKind.wrap_u8]
  simp only [tw, tv, e1, e2, List.cons_append, List.getD_cons_zero, List.getD_cons_succ]
  omega

theorem tv_set {m c : Int} (h : In16 m) {i : Nat} (hi : i < 2) (hc : 0 ≤ c ∧ c ≤ 255) (r : List Int) (he : tv ((tw m).set i c ++ r) = m) : c = (tw m).getD i 0 := by
  obtain ⟨h0, h1⟩ := h
  have e1 : IntKind.u8.wrap (m / 256) = m / 256 := by rw [IntKind.wrap_u8]; omega
  have e2 : IntKind.u8.wrap m = m % 256 := by rw [IntKind.wrap_u8]
  rcases i with _ | _ | i
  · simp only [tw, tv, e1, e2, List.cons_append, List.set_cons_zero, List.getD_cons_zero, List.getD_cons_succ] at he ⊢
    omega
  · simp only [tw, tv, e1, e2, List.cons_append, List.set_cons_zero, List.set_cons_succ, List.getD_cons_zero, List.getD_cons_succ] at he ⊢
    omega
  · omega

theorem set_split {zs : List Int} {j : Nat} (hj : j < zs.length) (c : Int) : zs = zs.take j ++ zs.getD j 0 :: zs.drop (j + 1) ∧ zs.set j c = zs.take j ++ c :: zs.drop (j + 1) := by
  constructor
  · have e : zs.getD j 0 = zs[j] := by simp [List.getD, hj]
    rw [e, ← List.drop_eq_getElem_cons hj, List.take_append_drop]
  · rw [List.set_eq_take_append_cons_drop, if_pos hj]

theorem sm_set {zs : List Int} {j : Nat} {c : Int} (hy : ∀ x ∈ zs, 0 ≤ x ∧ x ≤ 255) (hj : j < zs.length) (hc : 0 ≤ c ∧ c ≤ 255) (h : sm (zs.set j c) = sm zs) : c = zs.getD j 0 := by
  obtain ⟨h1, h2⟩ := set_split hj c
  rw [h2] at h
  have h3 : sm (zs.take j ++ c :: zs.drop (j + 1)) = sm (zs.take j ++ zs.getD j 0 :: zs.drop (j + 1)) := by rw [← h1]; exact h
  exact sm_other (take_bytes hy j) (drop_bytes hy (j + 1)) hc (getD_bytes hy j) h3

theorem app_bytes {a b : List Int} (ha : ∀ x ∈ a, 0 ≤ x ∧ x ≤ 255) (hb : ∀ x ∈ b, 0 ≤ x ∧ x ≤ 255) : ∀ x ∈ a ++ b, 0 ≤ x ∧ x ≤ 255 := fun x hx => (List.mem_append.1 hx).elim (ha x) (hb x)
theorem hd_bytes (n : Int) : ∀ x ∈ hd n, 0 ≤ x ∧ x ≤ 255 := app_bytes (tw_bytes _) (tw_bytes _)
theorem rcd_bytes {ps : List Int} (hp : ∀ x ∈ ps, 0 ≤ x ∧ x ≤ 255) : ∀ x ∈ rcd ps, 0 ≤ x ∧ x ≤ 255 := app_bytes (app_bytes (hd_bytes _) hp) (tw_bytes _)
theorem set_bytes {xs : List Int} (hx : ∀ x ∈ xs, 0 ≤ x ∧ x ≤ 255) {c : Int} (hc : 0 ≤ c ∧ c ≤ 255) (j : Nat) : ∀ x ∈ xs.set j c, 0 ≤ x ∧ x ≤ 255 := fun x hm => (List.mem_or_eq_of_mem_set hm).elim (hx x) (fun e => e ▸ hc)

/-- A sealed record's parts. -/
theorem rcd_parts (ps : List Int) : rcd ps = tw ps.length ++ (tw (sm (tw ps.length)) ++ (ps ++ tw (sm (hd ps.length ++ ps)))) := by
  simp [rcd, hd, List.append_assoc]
theorem rcd_take2 (ps : List Int) : (rcd ps).take 2 = tw ps.length := by rw [rcd_parts]; rfl
theorem rcd_drop2 (ps : List Int) : (rcd ps).drop 2 = tw (sm (tw ps.length)) ++ (ps ++ tw (sm (hd ps.length ++ ps))) := by rw [rcd_parts]; rfl
theorem rcd_take {ps : List Int} : (rcd ps).take (4 + ps.length) = hd ps.length ++ ps := by
  have e : (hd ps.length ++ ps).length = 4 + ps.length := by rw [List.length_append, hd_length]
  unfold rcd
  rw [← e]
  exact List.take_left
theorem rcd_drop {ps : List Int} : (rcd ps).drop (4 + ps.length) = tw (sm (hd ps.length ++ ps)) := by
  have e : (hd ps.length ++ ps).length = 4 + ps.length := by rw [List.length_append, hd_length]
  unfold rcd
  rw [← e]
  exact List.drop_left
theorem rcd_mid {ps : List Int} (bs : List Int) : ((rcd ps ++ bs).drop 4).take ps.length = ps := by
  have e : (rcd ps ++ bs).drop 4 = ps ++ (tw (sm (hd ps.length ++ ps)) ++ bs) := by rw [rcd_parts]; simp [tw]
  rw [e]
  exact List.take_left

theorem len_in {ps : List Int} (h : ps.length ≤ 14000) : In16 (ps.length : Int) := ⟨by omega, by omega⟩

theorem open_back {ps : List Int} (bs : List Int) (hp : ∀ x ∈ ps, 0 ≤ x ∧ x ≤ 255) (h0 : ps.length ≠ 0) (h1 : ps.length ≤ 14000) : openS (rcd ps ++ bs) = (ps, (ps.length : Int) + 6, 0) := by
  have hl := rcd_length ps
  have e1 : tv (rcd ps ++ bs) = (ps.length : Int) := by rw [rcd_parts, List.append_assoc]; exact tv_tw (len_in h1) _
  have e2 : (rcd ps ++ bs).take 2 = tw ps.length := by rw [List.take_append_of_le_length (by omega), rcd_take2]
  have e3 : tv ((rcd ps ++ bs).drop 2) = sm (tw ps.length) := by rw [List.drop_append_of_le_length (by omega), rcd_drop2, List.append_assoc]; exact tv_tw (sm_in (tw_bytes _)) _
  have e4 : (rcd ps ++ bs).take (4 + ps.length) = hd ps.length ++ ps := by rw [List.take_append_of_le_length (by omega), rcd_take]
  have e5 : tv ((rcd ps ++ bs).drop (4 + ps.length)) = sm (hd ps.length ++ ps) := by rw [List.drop_append_of_le_length (by omega), rcd_drop]; exact tv_tw (sm_in (app_bytes (hd_bytes _) hp)) _
  have hlen : (rcd ps ++ bs).length = ps.length + 6 + bs.length := by rw [List.length_append, hl]
  have := openS_ok (xs := rcd ps ++ bs) (n := ps.length) (by omega) e1 (by omega) (by omega) (by rw [e2, e3]) (by rw [hlen, e1]; omega) (by rw [e4, e5])
  rw [this, rcd_mid]

theorem tv_take (xs : List Int) {j : Nat} (h : 2 ≤ j) : tv (xs.take j) = tv xs := by
  have e : ∀ i, i < 2 → (xs.take j).getD i 0 = xs.getD i 0 := fun i hi => by simp [List.getD, List.getElem?_take, show i < j by omega]
  unfold tv
  rw [e 0 (by omega), e 1 (by omega)]

theorem open_cut {ps : List Int} (hp : ∀ x ∈ ps, 0 ≤ x ∧ x ≤ 255) (h0 : ps.length ≠ 0) (h1 : ps.length ≤ 14000) {j : Nat} (hj : j < ps.length + 6) : openS ((rcd ps).take j) = ([], 0, 5) := by
  have hl := rcd_length ps
  have hlj : ((rcd ps).take j).length = j := by rw [List.length_take]; omega
  by_cases h4 : j < 4
  · exact openS_short (by omega)
  have e1 : tv ((rcd ps).take j) = (ps.length : Int) := by rw [tv_take _ (by omega), rcd_parts]; exact tv_tw (len_in h1) _
  have e2 : ((rcd ps).take j).take 2 = tw ps.length := by rw [List.take_take, Nat.min_eq_left (by omega), rcd_take2]
  have e3 : tv (((rcd ps).take j).drop 2) = sm (tw ps.length) := by rw [List.drop_take, tv_take _ (by omega), rcd_drop2]; exact tv_tw (sm_in (tw_bytes _)) _
  exact openS_ends (by omega) (by omega) (by omega) (by rw [e2, e3]) (by rw [e1]; omega)

theorem openS_yes {xs : List Int} (h : (openS xs).2.2 = 0) : ¬ xs.length < 4 ∧ ¬ tv xs < 1 ∧ ¬ 14000 < tv xs ∧ tv (xs.drop 2) = sm (xs.take 2) ∧ ¬ (xs.length : Int) < tv xs + 6 ∧ tv (xs.drop (4 + (tv xs).toNat)) = sm (xs.take (4 + (tv xs).toNat)) := by
  by_cases h4 : xs.length < 4
  · rw [openS_short h4] at h; simp at h
  by_cases hb : tv xs < 1 ∨ 14000 < tv xs ∨ tv (xs.drop 2) ≠ sm (xs.take 2)
  · rw [openS_bad h4 hb] at h; simp at h
  have hb1 : ¬ tv xs < 1 := fun x => hb (.inl x)
  have hb2 : ¬ 14000 < tv xs := fun x => hb (.inr (.inl x))
  have hb3 : tv (xs.drop 2) = sm (xs.take 2) := Decidable.byContradiction fun x => hb (.inr (.inr x))
  by_cases he : (xs.length : Int) < tv xs + 6
  · rw [openS_ends h4 hb1 hb2 hb3 he] at h; simp at h
  by_cases hs : tv (xs.drop (4 + (tv xs).toNat)) = sm (xs.take (4 + (tv xs).toNat))
  · exact ⟨h4, hb1, hb2, hb3, he, hs⟩
  · rw [openS_sum (n := (tv xs).toNat) h4 (by omega) hb1 hb2 hb3 he hs] at h; simp at h

theorem take_set {xs bs : List Int} {j k : Nat} {c : Int} (hk : k ≤ xs.length) : (xs.set j c ++ bs).take k = (xs.take k).set j c := by
  rw [List.take_append_of_le_length (by simpa using hk), List.take_set]
theorem drop_set {xs bs : List Int} {j k : Nat} {c : Int} (hk : k ≤ xs.length) : (xs.set j c ++ bs).drop k = (if j < k then xs.drop k else (xs.drop k).set (j - k) c) ++ bs := by
  rw [List.drop_append_of_le_length (by simpa using hk), List.drop_set]

theorem set_far {zs : List Int} {j : Nat} (c : Int) (h : zs.length ≤ j) : zs.set j c = zs := List.set_eq_of_length_le h

theorem getD_take {xs : List Int} {j k : Nat} (h : j < k) : (xs.take k).getD j 0 = xs.getD j 0 := by simp [List.getD, List.getElem?_take, h]
theorem getD_drop {xs : List Int} {j k : Nat} (h : k ≤ j) : (xs.drop k).getD (j - k) 0 = xs.getD j 0 := by simp [List.getD, List.getElem?_drop, show k + (j - k) = j by omega]
theorem getD_left {xs ys : List Int} {j : Nat} (h : j < xs.length) : (xs ++ ys).getD j 0 = xs.getD j 0 := by simp [List.getD, List.getElem?_append_left h]

theorem open_turned {ps : List Int} (bs : List Int) (hp : ∀ x ∈ ps, 0 ≤ x ∧ x ≤ 255) (h0 : ps.length ≠ 0) (h1 : ps.length ≤ 14000) {j : Nat} (hj : j < ps.length + 6) {c : Int} (hc : 0 ≤ c ∧ c ≤ 255) (h : (openS ((rcd ps).set j c ++ bs)).2.2 = 0) : c = (rcd ps).getD j 0 := by
  have hl := rcd_length ps
  have hn := len_in h1
  obtain ⟨_, _, _, h3, _, h5⟩ := openS_yes h
  rw [take_set (by omega), drop_set (by omega), rcd_take2, rcd_drop2] at h3
  by_cases j2 : j < 2
  · rw [if_pos j2, List.append_assoc, tv_tw (sm_in (tw_bytes _))] at h3
    have := sm_set (tw_bytes _) (by rw [tw_length]; exact j2) hc h3.symm
    rw [this, ← getD_take (xs := rcd ps) (k := 2) j2, rcd_take2]
  rw [if_neg j2, set_far (zs := tw (ps.length : Int)) c (by rw [tw_length]; omega)] at h3
  by_cases j4 : j < 4
  · rw [List.set_append_left (j - 2) c (by rw [tw_length]; omega), List.append_assoc] at h3
    have := tv_set (sm_in (tw_bytes _)) (by omega) hc _ h3
    rw [this, ← getD_drop (xs := rcd ps) (k := 2) (by omega : 2 ≤ j), rcd_drop2, getD_left (by rw [tw_length]; omega)]
  have e1 : tv ((rcd ps).set j c ++ bs) = (ps.length : Int) := by
    have e : tv ((rcd ps).set j c ++ bs) = tv (((rcd ps).set j c ++ bs).take 2) := (tv_take _ (Nat.le_refl 2)).symm
    rw [e, take_set (by omega), rcd_take2, set_far c (by rw [tw_length]; omega)]
    have := tv_tw hn []
    rwa [List.append_nil] at this
  rw [e1, Int.toNat_natCast, take_set (by omega), drop_set (by omega), rcd_take, rcd_drop] at h5
  have hS := sm_in (app_bytes (hd_bytes (ps.length : Int)) hp)
  have hlen : (hd (ps.length : Int) ++ ps).length = 4 + ps.length := by rw [List.length_append, hd_length]
  by_cases jn : j < 4 + ps.length
  · rw [if_pos jn, tv_tw hS] at h5
    have := sm_set (app_bytes (hd_bytes _) hp) (by omega) hc h5.symm
    rw [this, ← getD_take (xs := rcd ps) (k := 4 + ps.length) jn, rcd_take]
  · rw [if_neg jn, set_far (zs := hd (ps.length : Int) ++ ps) c (by omega)] at h5
    have := tv_set hS (by omega) hc _ h5
    rw [this, ← getD_drop (xs := rcd ps) (k := 4 + ps.length) (by omega), rcd_drop]
end Go.Proofs.Ytlkhakcphdemjaa
