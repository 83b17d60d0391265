import Derived.Test.YtccmmkhcacglhaaGreatDoorWkc05
import Derived.Test.YtccmmkhcacglhaaGreatDoorWkc16
import Derived.Test.YtccmmkhcacglhaaGreatDoorWkc06
import Derived.Test.YtccmmkhcacglhaaGreatDoorWkc02
import Derived.Test.YtccmmkhcacglhaaGreatDoorWkc01
import Derived.Test.YtccmmkhcacglhaaGreatDoorWkc10
import Derived.Deep.RegionLaw
import Derived.Deep.LoopGhost
import Derived.Deep.DeepCutAuto

/- What a chart that was read holds: clean expressions, rows that are short. -/
namespace Go.Proofs.YtccmmkhcacglhaaGreatDoor
open Go.RowKit Go.Lib
set_option linter.unusedSimpArgs false
set_option linter.unusedVariables false

/-- The words that are left are words, and few. -/
def Wds (r : RsC) : Prop := (∀ x ∈ r.1, OneW x.1 x.2.1) ∧ r.1.length ≤ 3000
theorem wds_sub {r r' : RsC} (h : Wds r) (hs : ∀ x ∈ r'.1, x ∈ r.1) (hl : r'.1.length ≤ r.1.length) : Wds r' := ⟨fun x hx => h.1 x (hs x hx), Nat.le_trans hl h.2⟩
theorem wds_fail {r : RsC} (h : Wds r) (e : Int) (p : Pl) : Wds (failC e p r) := wds_sub h (by rw [failC_len]; exact fun _ => id) (by rw [failC_len]; exact Nat.le_refl _)
theorem wds_take {r : RsC} (h : Wds r) (fin : Pl) (s : List UInt8) : Wds (takeR fin s r) := by
  refine wds_sub h ?_ (takeR_len fin s r)
  unfold takeR
  split
  · exact fun x hx => List.mem_of_mem_tail hx
  · rw [failC_len]; exact fun _ => id
theorem wds_name {r : RsC} (h : Wds r) (fin : Pl) : Wds (nameR fin r).2 := by
  refine wds_sub h ?_ (nameR_len fin r)
  unfold nameR
  cases hr : r.1 with
  | nil => simp only; rw [failC_len, hr]; exact fun _ => id
  | cons w l =>
    simp only
    split
    · exact fun x hx => List.mem_cons_of_mem _ hx
    · rw [failC_len, hr]; exact fun _ => id
theorem wds_num {r : RsC} (h : Wds r) (fin : Pl) : Wds (numR fin r).2 := by
  refine wds_sub h ?_ (numR_len fin r)
  unfold numR
  cases hr : r.1 with
  | nil => simp only; rw [failC_len, hr]; exact fun _ => id
  | cons w l =>
    simp only
    split
    · exact fun x hx => List.mem_cons_of_mem _ hx
    · rw [failC_len, hr]; exact fun _ => id
theorem wds_expr {r : RsC} (h : Wds r) (fin : Pl) : Wds (exprR fin r).2 := by
  refine wds_sub h ?_ (exprR_len fin r)
  unfold exprR
  split
  · exact fun _ => id
  · split
    · exact fun x hx => List.mem_of_mem_drop hx
    · split
      · rw [failC_len]; exact fun _ => id
      · rw [failC_len]; exact fun x hx => List.mem_of_mem_drop hx
theorem expr_cl {r : RsC} (h : Wds r) (fin : Pl) : ClX (exprR fin r).1 := by
  unfold exprR
  split
  · exact cl_no
  · split
    · exact (take_cl h.1).1
    · split
      · exact (take_cl h.1).1
      · exact (take_cl h.1).1
/-- A form is no nil. -/
theorem fm_iface {x : Sx} (h : ClX x) (hf : fmX x = true) : ∃ u y, exX x = .iface u y := by
  obtain ⟨d, t⟩ := x
  cases d with
  | zero => exact Empty.elim t
  | succ d =>
    rcases Cl.cases h with ⟨n, rfl⟩ | ⟨s, rfl⟩ | ⟨k, p, hk, rfl, _⟩ | ⟨s, p, q, rfl, _, _⟩ | rfl
    · exact ⟨_, _, rfl⟩
    · exact ⟨_, _, rfl⟩
    · rcases hk with rfl | rfl <;> exact ⟨_, _, rfl⟩
    · exact ⟨_, _, rfl⟩
    · exact absurd hf (by rw [show fmX (⟨d + 1, none0⟩ : Sx) = false from rfl]; decide)
theorem expr_some {r : RsC} (h : Wds r) (fin : Pl) (he : (exprR fin r).2.2.2 = 0) : ∃ u y, exX (exprR fin r).1 = .iface u y := by
  have hc := take_cl h.1
  unfold exprR at he ⊢
  split at he
  · rename_i h1; exact absurd he h1
  · rename_i h1
    rw [if_neg h1]
    split at he
    · rename_i h2
      rw [if_pos h2]
      refine fm_iface hc.1 ?_
      unfold takeC at h2 ⊢
      split at h2
      · exact absurd (show (12 : Int) = 0 from h2) (by decide)
      · rename_i h3
        rw [if_neg h3]
        split at h2
        · rename_i h4; rw [if_pos h4]; exact h4
        · exact absurd (show (13 : Int) = 0 from h2) (by decide)
    · split at he
      · exact absurd he (failC_bad (by decide) _ _)
      · rename_i h2 h3; exact absurd he (failC_bad h2 _ _)
theorem sets_ok (fin : Pl) : ∀ (g : Nat) (acc : List (List UInt8 × Sx)) (r : RsC), Wds r → (∀ x ∈ acc, ClX x.2) → (∀ x ∈ (setsR fin g acc r).1, ClX x.2) ∧ (setsR fin g acc r).1.length ≤ acc.length + r.1.length ∧ Wds (setsR fin g acc r).2
  | 0, acc, r, h, ha => ⟨ha, Nat.le_add_right _ _, h⟩
  | g + 1, acc, r, h, ha => by
    unfold setsR
    split
    · rename_i hi
      have hl := takeR_less fin hi
      have w1 := wds_name (wds_take h fin wSet) fin
      have w2 := wds_take w1 fin [61]
      obtain ⟨i1, i2, i3⟩ := sets_ok fin g (acc ++ [((nameR fin (takeR fin wSet r)).1.1, (exprR fin (takeR fin [61] (nameR fin (takeR fin wSet r)).2)).1)]) (exprR fin (takeR fin [61] (nameR fin (takeR fin wSet r)).2)).2 (wds_expr w2 fin) (fun x hx => by
        rcases List.mem_append.1 hx with hx | hx
        · exact ha x hx
        · rw [List.mem_singleton.1 hx]; exact expr_cl w2 fin)
      refine ⟨i1, ?_, i3⟩
      have g1 := ((goes_name fin (takeR fin wSet r)).trans ((goes_take fin [61] _).trans (goes_expr fin _))).1
      rw [List.length_append, List.length_singleton] at i2
      simp only
      omega
    · exact ⟨ha, Nat.le_add_right _ _, h⟩
/-- What an on holds. -/
def OkO (o : OnC) : Prop := ClX o.2.1.2 ∧ (o.2.1.1 = false → o.2.1.2 = noX) ∧ (o.2.1.1 = true → ∃ u y, exX o.2.1.2 = .iface u y) ∧ (∀ x ∈ o.2.2.2.1, ClX x.2) ∧ o.2.2.2.1.length ≤ 3001
theorem wds_on {r : RsC} (h : Wds r) (fin : Pl) : Wds (onR fin r).2 ∧ ((onR fin r).2.2.2 = 0 → OkO (onR fin r).1) := by
  have w1 := wds_name (wds_take h fin wOn) fin
  unfold onR
  simp only
  generalize nameR fin (takeR fin wOn r) = A at *
  by_cases hi : isC wIf A.2 = true
  · rw [if_pos hi]
    have w2 := wds_take w1 fin wIf
    have c2 := expr_cl w2 fin
    have s2 := expr_some w2 fin
    have w3 := wds_expr w2 fin
    generalize exprR fin (takeR fin wIf A.2) = E at *
    simp only
    have w4 := wds_name (wds_take w3 fin wGo) fin
    have g4 := (goes_take fin wGo E.2).trans (goes_name fin (takeR fin wGo E.2))
    generalize nameR fin (takeR fin wGo E.2) = N at *
    obtain ⟨i1, i2, i3⟩ := sets_ok fin (N.2.1.length + 1) [] N.2 w4 (fun x hx => by simp at hx)
    refine ⟨i3, fun he => ⟨c2, fun e => Bool.noConfusion e, fun _ => s2 (g4.2 ((goes_sets fin _ _ _).2 he)), i1, ?_⟩⟩
    have := w4.2
    rw [List.length_nil] at i2
    simp only
    omega
  · rw [if_neg hi]
    simp only
    have w4 := wds_name (wds_take w1 fin wGo) fin
    generalize nameR fin (takeR fin wGo A.2) = N at *
    obtain ⟨i1, i2, i3⟩ := sets_ok fin (N.2.1.length + 1) [] N.2 w4 (fun x hx => by simp at hx)
    refine ⟨i3, fun he => ⟨cl_no, fun _ => rfl, fun e => Bool.noConfusion e, i1, ?_⟩⟩
    have := w4.2
    rw [List.length_nil] at i2
    simp only
    omega
theorem wds_kind {r : RsC} (h : Wds r) (fin : Pl) : Wds (kindR fin r).2 := by
  unfold kindR
  split
  · exact wds_take h fin _
  · split
    · exact wds_take h fin _
    · split
      · exact wds_num (wds_take (wds_num (wds_take (wds_name (wds_take (wds_name (wds_take h fin _) fin) fin _) fin) fin _) fin) fin _) fin
      · exact h
theorem in_ok {α : Type} (fin : Pl) (inner : RsC → α × RsC) (Q : α → Prop) (hw : ∀ r, Wds r → Wds (inner r).2) (hq : ∀ r, Wds r → (inner r).2.2.2 = 0 → Q (inner r).1) (hg : ∀ r, Goes r (inner r).2) (hl : ∀ r, (inner r).2.2.2 = 0 → (inner r).2.1.length < r.1.length) :
    ∀ (g : Nat) (os : List OnC) (ss : List α) (r : RsC), Wds r → (∀ o ∈ os, OkO o) → (∀ x ∈ ss, Q x) → Wds (inR fin inner g os ss r).2 ∧ ((inR fin inner g os ss r).2.2.2 = 0 → (∀ o ∈ (inR fin inner g os ss r).1.1, OkO o) ∧ (∀ x ∈ (inR fin inner g os ss r).1.2, Q x) ∧ (inR fin inner g os ss r).1.1.length + (inR fin inner g os ss r).1.2.length ≤ os.length + ss.length + r.1.length) := by
  have key : ∀ (g : Nat) (os : List OnC) (ss : List α) (r : RsC), Wds r → Wds (inR fin inner g os ss r).2 := by
    intro g
    induction g with
    | zero => exact fun os ss r h => h
    | succ g ih =>
      intro os ss r h
      unfold inR
      split
      · split
        · exact ih _ _ _ (wds_on h fin).1
        · exact ih _ _ _ (hw r h)
      · exact h
  intro g
  induction g with
  | zero => exact fun os ss r h ho hs => ⟨h, fun _ => ⟨ho, hs, Nat.le_add_right _ _⟩⟩
  | succ g ih =>
    intro os ss r h ho hs
    refine ⟨key _ _ _ _ h, ?_⟩
    unfold inR
    split
    · split
      · rename_i h1 h2
        intro he
        have h0 := (goes_in fin inner hg g _ _ _).2 he
        have hk := (wds_on h fin).2 h0
        obtain ⟨j1, j2, j3⟩ := (ih (os ++ [(onR fin r).1]) ss (onR fin r).2 (wds_on h fin).1 (fun o hx => by
          rcases List.mem_append.1 hx with hx | hx
          · exact ho o hx
          · rw [List.mem_singleton.1 hx]; exact hk) hs).2 he
        refine ⟨j1, j2, ?_⟩
        have hll := on_less (fin := fin) h2
        rw [List.length_append, List.length_singleton] at j3
        omega
      · rename_i h1 h2
        intro he
        have h0 := (goes_in fin inner hg g _ _ _).2 he
        obtain ⟨j1, j2, j3⟩ := (ih os (ss ++ [(inner r).1]) (inner r).2 (hw r h) ho (fun o hx => by
          rcases List.mem_append.1 hx with hx | hx
          · exact hs o hx
          · rw [List.mem_singleton.1 hx]; exact hq r h h0)).2 he
        refine ⟨j1, j2, ?_⟩
        have hll := hl r h0
        rw [List.length_append, List.length_singleton] at j3
        omega
    · exact fun _ => ⟨ho, hs, Nat.le_add_right _ _⟩
/-- What a state holds. -/
def OkS : (d : Nat) → St d → Prop
  | 0, t => Empty.elim t
  | d + 1, t => (∀ o ∈ t.1.2.2.2.2, OkO o) ∧ t.1.2.2.2.2.length ≤ 3001 ∧ t.2.length ≤ 3001 ∧ ∀ x ∈ t.2, OkS d x
theorem st_ok : ∀ (fin : Pl) (k : Nat) (r : RsC), Wds r → Wds (stR fin k r).2 ∧ ((stR fin k r).2.2.2 = 0 → OkS (k + 1) (stR fin k r).1)
  | fin, 0, r, h => ⟨wds_fail h _ _, fun he => absurd he (failC_bad (by split <;> decide) _ r)⟩
  | fin, k + 1, r, h => by
    have w1 := wds_kind (wds_take (wds_name (wds_take h fin wState) fin) fin [123]) fin
    obtain ⟨i1, i2⟩ := in_ok fin (stR fin k) (OkS (k + 1)) (fun r h => (st_ok fin k r h).1) (fun r h => (st_ok fin k r h).2) (fun r => (goes_st fin k r).1) (fun r => (goes_st fin k r).2) ((kindR fin (takeR fin [123] (nameR fin (takeR fin wState r)).2)).2.1.length + 1) [] [] _ w1 (fun x hx => by simp at hx) (fun x hx => by simp at hx)
    refine ⟨wds_take i1 fin [125], fun he => ?_⟩
    obtain ⟨j1, j2, j3⟩ := i2 ((goes_take fin [125] _).2 he)
    have := w1.2
    simp only [List.length_nil] at j3
    exact ⟨j1, by show _ ≤ 3001; simp only [stR]; omega, by show _ ≤ 3001; simp only [stR]; omega, j2⟩
theorem sts_ok (fin : Pl) : ∀ (g : Nat) (acc : List (St 7)) (r : RsC), Wds r → (∀ x ∈ acc, OkS 7 x) → (stsR fin g acc r).2.2.2 = 0 → (∀ x ∈ (stsR fin g acc r).1, OkS 7 x) ∧ (stsR fin g acc r).1.length ≤ acc.length + r.1.length
  | 0, acc, r, h, ha, _ => ⟨ha, Nat.le_add_right _ _⟩
  | g + 1, acc, r, h, ha, he => by
    unfold stsR at he ⊢
    split at he
    · rename_i h1
      rw [if_pos h1]
      have h0 : (stR fin 6 r).2.2.2 = 0 := by
        by_cases hz : (stR fin 6 r).2.2.2 = 0
        · exact hz
        · rw [sts_err hz] at he; exact absurd he hz
      obtain ⟨j1, j2⟩ := sts_ok fin g (acc ++ [(stR fin 6 r).1]) (stR fin 6 r).2 (st_ok fin 6 r h).1 (fun x hx => by
        rcases List.mem_append.1 hx with hx | hx
        · exact ha x hx
        · rw [List.mem_singleton.1 hx]; exact (st_ok fin 6 r h).2 h0) he
      refine ⟨j1, ?_⟩
      have := (goes_st fin 6 r).2 h0
      rw [List.length_append, List.length_singleton] at j2
      omega
    · rename_i h1
      rw [if_neg h1]
      exact ⟨ha, Nat.le_add_right _ _⟩
theorem vars_ok (fin : Pl) : ∀ (g : Nat) (acc : List (List UInt8 × Int × Pl)) (r : RsC), Wds r → Wds (varsR fin g acc r).2 ∧ (varsR fin g acc r).1.length ≤ acc.length + r.1.length
  | 0, acc, r, h => ⟨h, Nat.le_add_right _ _⟩
  | g + 1, acc, r, h => by
    unfold varsR
    split
    · rename_i hi
      have hl := takeR_less fin hi
      have w1 := wds_take (wds_name (wds_take h fin wVar) fin) fin [61]
      have g1 := ((goes_name fin (takeR fin wVar r)).trans (goes_take fin [61] _)).1
      simp only
      generalize takeR fin [61] (nameR fin (takeR fin wVar r)).2 = B at *
      by_cases hm : isC [45] B = true
      · rw [if_pos hm]
        obtain ⟨j1, j2⟩ := vars_ok fin g (acc ++ [((nameR fin (takeR fin wVar r)).1.1, -(numR fin (takeR fin [45] B)).1, (nameR fin (takeR fin wVar r)).1.2)]) (numR fin (takeR fin [45] B)).2 (wds_num (wds_take w1 fin _) fin)
        refine ⟨j1, ?_⟩
        have := ((goes_take fin [45] B).trans (goes_num fin _)).1
        rw [List.length_append, List.length_singleton] at j2
        simp only at *
        omega
      · rw [if_neg hm]
        obtain ⟨j1, j2⟩ := vars_ok fin g (acc ++ [((nameR fin (takeR fin wVar r)).1.1, (numR fin B).1, (nameR fin (takeR fin wVar r)).1.2)]) (numR fin B).2 (wds_num w1 fin)
        refine ⟨j1, ?_⟩
        have := (goes_num fin B).1
        rw [List.length_append, List.length_singleton] at j2
        omega
    · exact ⟨h, Nat.le_add_right _ _⟩
/-- A chart that was read. -/
theorem read_ok (s : List UInt8) : (∀ t ∈ (readC s).1.2.2.2, OkS 7 t) ∧ (readC s).1.2.2.2.length ≤ 3001 ∧ (readC s).1.2.2.1.length ≤ 3001 := by
  have hno : (∀ t ∈ noC.2.2.2, OkS 7 t) ∧ noC.2.2.2.length ≤ 3001 ∧ noC.2.2.1.length ≤ 3001 := ⟨fun t ht => by simp [noC] at ht, by simp [noC], by simp [noC]⟩
  unfold readC
  split
  · exact hno
  · rename_i h
    obtain ⟨h2, h3⟩ := words_one (l := s) (by simpa using h)
    generalize (wordsS s).1 = ws at *
    generalize endP (runes s) 1 1 = fin
    have w0 : Wds (ws, (0, 0), 0) := ⟨h2, h3⟩
    have w1 := wds_take (wds_num (wds_name (wds_take w0 fin wChart) fin) fin) fin [123]
    unfold chR
    simp only
    generalize takeR fin [123] (numR fin (nameR fin (takeR fin wChart (ws, (0, 0), 0))).2).2 = B at *
    obtain ⟨v1, v2⟩ := vars_ok fin (B.1.length + 1) [] B w1
    generalize varsR fin (B.1.length + 1) [] B = V at *
    have hs := sts_ok fin (V.2.1.length + 1) [] V.2 v1 (fun x hx => by simp at hx)
    generalize stsR fin (V.2.1.length + 1) [] V.2 = S at *
    have ge := (goes_take fin [125] S.2).2
    generalize takeR fin [125] S.2 = E at *
    obtain ⟨z, hz⟩ : ∃ z, (if E.2.2 = 0 ∧ E.1 ≠ [] then failC 12 (hereR fin E) E else E) = z := ⟨_, rfl⟩
    rw [hz]
    by_cases hzz : z.2.2 = 0
    · rw [if_pos hzz]
      have hE : E.2.2 = 0 := by
        by_cases hc : E.2.2 = 0 ∧ E.1 ≠ []
        · exact hc.1
        · rw [if_neg hc] at hz; rw [hz]; exact hzz
      obtain ⟨j1, j2⟩ := hs (ge hE)
      have a1 := w1.2
      have a2 := v1.2
      rw [List.length_nil] at v2 j2
      exact ⟨j1, by show S.1.length ≤ 3001; omega, by show V.1.length ≤ 3001; omega⟩
    · rw [if_neg hzz]; exact hno
end Go.Proofs.YtccmmkhcacglhaaGreatDoor

/- The texts of ChartDeep, read; the text of awake. Math alone. -/
namespace Go.Proofs.YtccmmkhcacglhaaGreatDoor
open Go.RowKit Go.Lib
set_option linter.unusedVariables false
def awT : List UInt8 := [99, 104, 97, 114, 116, 32, 97, 32, 49, 32, 123, 32, 115, 116, 97, 116, 101, 32, 98, 32, 123, 32, 101, 110, 100, 32, 125, 32, 125]
set_option maxRecDepth 100000 in
theorem aw_ok : (readC awT).2 = ((0, 0), 0) := by kernel_rfl
set_option maxRecDepth 100000 in
theorem aw_end : (readC awT).1.2.2.2.map (fun s => s.1.2.1.2) = [true] := by kernel_rfl
end Go.Proofs.YtccmmkhcacglhaaGreatDoor

/- What awake answers. -/
namespace Go.Proofs.YtccmmkhcacglhaaGreatDoor
open Go.RowKit Go.Lib
set_option linter.unusedSimpArgs false
set_option linter.unusedVariables false
attribute [local go_sem ↓] Go.wp_at_zero Go.wp_at_succ

/-- A chart's six cells. -/
theorem RdC.lit {ok : Nat → Prop} {w : World} {d : Nat} {c : ChG d} {v : Value} (h : RdC ok w d c v) : ∃ nv vn ln co va vc sa sc, v = .agg #[.string nv, .int .i64 vn, .int .i64 ln, .int .i64 co, .slice va c.2.2.1.length vc, .slice sa c.2.2.2.length sc] ∧ RdK ok w 4 (rVar ok w) c.2.2.1 (.slice va c.2.2.1.length vc) ∧ RdK ok w 11 (rSt d ok w) c.2.2.2 (.slice sa c.2.2.2.length sc) := by
  obtain ⟨sv, ss, rfl, h1, h2⟩ := h
  obtain ⟨va, vc, rfl, _⟩ := h1.form
  obtain ⟨sa, sc, rfl, _⟩ := h2.form
  exact ⟨_, _, _, _, va, vc, sa, sc, rfl, h1, h2⟩
/-- The first of some states: its cells. -/
theorem rdSt_at {ok : Nat → Prop} {w : World} {d : Nat} {l : List (St (d + 1))} {a : Option Addr} {n c : Nat} (h : RdK ok w 11 (rSt (d + 1) ok w) l (.slice a n c)) (i : Nat) (hi : i < l.length) : ∃ b off so si, a = some ⟨b, off, none⟩ ∧ ok b ∧ b < w.heap.size ∧ RdK ok w 6 (rOn ok w) (l[i]).1.2.2.2.2 so ∧ RdK ok w 11 (rSt d ok w) (l[i]).2 si ∧ ∀ j u, (hdV (l[i]).1 so si)[j]? = some u → w.cell? ⟨b, off + i * 11 + j, none⟩ = some u := by
  obtain ⟨a', c', e, _, _, hc⟩ := h
  simp only [Value.slice.injEq] at e
  obtain ⟨rfl, _, _⟩ := e
  obtain ⟨b, off, cs, h1, h2, h3, _, ⟨so, si, rfl, h4, h5⟩, h6⟩ := hc i hi
  exact ⟨b, off, so, si, h1, h2, h3, h4, h5, h6⟩
set_option maxRecDepth 100000 in
set_option maxHeartbeats 4000000 in
theorem awakeC (w : World) (hE : Esy w) : Calls Tryz.prog 9 #[] w fun e w' => e = .returned (.bool true) ∧ Below w.heap.size w w' := by
  have h1 := readP_any ⟨awT.toArray⟩ w hE (by decide)
  have e1 : bl ⟨awT.toArray⟩ = awT := rfl
  rw [e1] at h1
  obtain ⟨⟨CC, PP⟩, hR⟩ : ∃ x, readC awT = x := ⟨_, rfl⟩
  have h2 := aw_ok
  have h3 := aw_end
  rw [hR] at h1 h2 h3
  simp only at h2 h3
  subst h2
  simp only at h1
  have hl : CC.2.2.2.length = 1 := by
    have := congrArg List.length h3
    rwa [List.length_map] at this
  have he : ∀ (hh : 0 < CC.2.2.2.length), (CC.2.2.2[0]).1.2.1.2 = true := fun hh => by
    have := congrArg (fun l => l[0]?) h3
    simp only [List.getElem?_map, List.getElem?_eq_getElem hh, Option.map_some, List.getElem?_cons_zero, Option.some.injEq] at this
    exact this
  have h4 : Calls Tryz.prog 10 #[.string ⟨#[99, 104, 97, 114, 116, 32, 97, 32, 49, 32, 123, 32, 115, 116, 97, 116, 101, 32, 98, 32, 123, 32, 101, 110, 100, 32, 125, 32, 125]⟩] w fun e w' => (∃ nv vn ln co va vl vc b off sc, e = .returned (.tuple #[.agg #[.string nv, .int .i64 vn, .int .i64 ln, .int .i64 co, .slice va vl vc, .slice (some ⟨b, off, none⟩) 1 sc], .agg #[.int .i64 0, .int .i64 0], .int .i64 0]) ∧ b < w'.heap.size ∧ w'.cell? ⟨b, off + 4, none⟩ = some (.bool true)) ∧ Below w.heap.size w w' := h1.mono (fun e w' hh => by
    obtain ⟨v, rfl, hv, hb⟩ := hh
    obtain ⟨nv, vn, ln, co, va, vc, sa, sc, rfl, q1, q2⟩ := hv.lit
    obtain ⟨b, off, so, si, rfl, _, hbl, _, _, hc⟩ := rdSt_at q2 0 (by omega)
    refine ⟨⟨nv, vn, ln, co, va, _, vc, b, off, sc, by rw [hl], hbl, ?_⟩, hb⟩
    have := hc 4 _ rfl
    rw [he (by omega), Nat.zero_mul, Nat.add_zero] at this
    exact this)
  clear h1 he hl h3 hR e1
  go_enter Tryz.func9, Tryz.ntmps9
  go_upto_region 2 with (first
    | (go_at_call 10; refine h4.mono ?_; rintro e w1 ⟨⟨nv, vn, ln, co, va, vl, vc, b, off, sc, rfl, hbl, hc⟩, b1⟩))
  have hal := (Below.refl w1.heap.size w1).alloc (Nat.le_refl _) (.cells #[.string nv, .int .i64 vn, .int .i64 ln, .int .i64 co, .slice va vl vc, .slice (some ⟨b, off, none⟩) 1 sc] 28)
  have hal2 := hal.alloc hal.size (.cells #[.int .i64 0, .int .i64 0] 24)
  have hA : Bn ((w1.alloc (.cells #[.string nv, .int .i64 vn, .int .i64 ln, .int .i64 co, .slice va vl vc, .slice (some ⟨b, off, none⟩) 1 sc] 28)).alloc (.cells #[.int .i64 0, .int .i64 0] 24)) w1.heap.size [.string nv, .int .i64 vn, .int .i64 ln, .int .i64 co, .slice va vl vc, .slice (some ⟨b, off, none⟩) 1 sc] := (Bn.new w1 [.string nv, .int .i64 vn, .int .i64 ln, .int .i64 co, .slice va vl vc, .slice (some ⟨b, off, none⟩) 1 sc] 28 _ rfl).on ((Below.refl _ _).alloc (Nat.le_refl _) _)
  have hc2 := (hal2.cell (p := ⟨b, off + 4, none⟩) hbl).trans hc
  have hb2 := b1.trans (hal2.mono b1.size)
  obtain ⟨a5, _⟩ := hA 5 _ rfl
  clear hc hA hal hal2 h4 b1
  generalize (w1.alloc (.cells #[.string nv, .int .i64 vn, .int .i64 ln, .int .i64 co, .slice va vl vc, .slice (some ⟨b, off, none⟩) 1 sc] 28)).alloc (.cells #[.int .i64 0, .int .i64 0] 24) = w2 at *
  go_wp2
  go_ret
  exact ⟨rfl, hb2⟩
end Go.Proofs.YtccmmkhcacglhaaGreatDoor

/- What an expression is by itself, its parts in new memory. -/
namespace Go.Proofs.YtccmmkhcacglhaaGreatDoor
open Go.RowKit Go.Lib
set_option linter.unusedSimpArgs false
set_option linter.unusedVariables false
attribute [local go_sem ↓] Go.wp_at_zero Go.wp_at_succ
attribute [local go_sem] as_lit_lit as_ref_lit as_ref_ref as_not_lit as_not_ref as_not_not as_neg_lit as_neg_ref as_neg_not as_neg_neg as_bin_lit as_bin_ref as_bin_not as_bin_neg as_bin_bin

/-- The slice v holds the values l, in a block from lo on. -/
def KidsN (lo : Nat) (w : World) (v : Value) (l : List Value) : Prop := Kids w v l ∧ ∀ g, v.ownBlock = some g → lo ≤ g
theorem kidsN0 (lo : Nat) (w : World) : KidsN lo w (.slice none 0 0) [] := ⟨kids0 w, fun g hg => by cases hg⟩
theorem kidsN1 {lo : Nat} {w : World} {g : Nat} {x : Value} (hl : lo ≤ g) (h : w.cell? ⟨g, 0, none⟩ = some x) : KidsN lo w (.slice (some ⟨g, 0, none⟩) 1 1) [x] := ⟨kids1 h, fun g' hg => by simp [Value.ownBlock] at hg; omega⟩
theorem kidsN2 {lo : Nat} {w : World} {g : Nat} {x y : Value} (hl : lo ≤ g) (h : w.cell? ⟨g, 0, none⟩ = some x) (h' : w.cell? ⟨g, 1, none⟩ = some y) : KidsN lo w (.slice (some ⟨g, 0, none⟩) 2 2) [x, y] := ⟨kids2 h h', fun g' hg => by simp [Value.ownBlock] at hg; omega⟩
theorem topN_nil (w : World) : Calls Tryz.prog 152 #[.nilIface] w fun e w' => ∃ sl, e = .returned (topV 0 0 ⟨#[]⟩ sl) ∧ KidsN w.heap.size w' sl [] ∧ Below w.heap.size w w' := by
  go_enter Tryz.func152, Tryz.ntmps152
  go_wp2
  refine bodyPost_ret (v := topV 0 0 ⟨#[]⟩ (.slice none 0 0)) (by simp [results, Tryz.results152, go_sem]) rfl ⟨_, rfl, kidsN0 _ _, ?_⟩
  · (repeat (refine Below.alloc ?_ (by simp <;> omega) _)); exact Below.refl _ _

theorem topN_lit (n : Int) (w : World) : Calls Tryz.prog 152 #[.iface 178 (.agg #[.int .i64 n])] w fun e w' => ∃ sl, e = .returned (topV 1 n ⟨#[]⟩ sl) ∧ KidsN w.heap.size w' sl [] ∧ Below w.heap.size w w' := by
  go_enter Tryz.func152, Tryz.ntmps152
  go_wp2
  refine bodyPost_ret (v := topV 1 n ⟨#[]⟩ (.slice none 0 0)) (by simp [results, Tryz.results152, go_sem]) rfl ⟨_, rfl, kidsN0 _ _, ?_⟩
  · (repeat (refine Below.alloc ?_ (by simp <;> omega) _)); exact Below.refl _ _

theorem topN_ref (s : ByteArray) (w : World) : Calls Tryz.prog 152 #[.iface 180 (.agg #[.string s])] w fun e w' => ∃ sl, e = .returned (topV 2 0 s sl) ∧ KidsN w.heap.size w' sl [] ∧ Below w.heap.size w w' := by
  go_enter Tryz.func152, Tryz.ntmps152
  go_wp2
  refine bodyPost_ret (v := topV 2 0 s (.slice none 0 0)) (by simp [results, Tryz.results152, go_sem]) rfl ⟨_, rfl, kidsN0 _ _, ?_⟩
  · (repeat (refine Below.alloc ?_ (by simp <;> omega) _)); exact Below.refl _ _

theorem topN_not (x : Value) (hx : Ifc x) (w : World) : Calls Tryz.prog 152 #[.iface 182 (.agg #[x])] w fun e w' => ∃ sl, e = .returned (topV 3 0 ⟨#[]⟩ sl) ∧ KidsN w.heap.size w' sl [x] ∧ Below w.heap.size w w' := by
  rcases hx with rfl | ⟨u, y, rfl⟩
  · go_enter Tryz.func152, Tryz.ntmps152
    go_wp2
    refine bodyPost_ret (v := topV 3 0 ⟨#[]⟩ (.slice (some ⟨w.heap.size + 4, 0, none⟩) 1 1)) (by simp [results, Tryz.results152, go_sem]) rfl ⟨_, rfl, kidsN1 ?_ ?_, ?_⟩
    · simp
    · exact cell1_new _ _ _ _ (by simp)
    · (repeat (refine Below.alloc ?_ (by simp <;> omega) _)); exact Below.refl _ _
  · go_enter Tryz.func152, Tryz.ntmps152
    go_wp2
    refine bodyPost_ret (v := topV 3 0 ⟨#[]⟩ (.slice (some ⟨w.heap.size + 4, 0, none⟩) 1 1)) (by simp [results, Tryz.results152, go_sem]) rfl ⟨_, rfl, kidsN1 ?_ ?_, ?_⟩
    · simp
    · exact cell1_new _ _ _ _ (by simp)
    · (repeat (refine Below.alloc ?_ (by simp <;> omega) _)); exact Below.refl _ _

theorem topN_neg (x : Value) (hx : Ifc x) (w : World) : Calls Tryz.prog 152 #[.iface 183 (.agg #[x])] w fun e w' => ∃ sl, e = .returned (topV 4 0 ⟨#[]⟩ sl) ∧ KidsN w.heap.size w' sl [x] ∧ Below w.heap.size w w' := by
  rcases hx with rfl | ⟨u, y, rfl⟩
  · go_enter Tryz.func152, Tryz.ntmps152
    go_wp2
    refine bodyPost_ret (v := topV 4 0 ⟨#[]⟩ (.slice (some ⟨w.heap.size + 5, 0, none⟩) 1 1)) (by simp [results, Tryz.results152, go_sem]) rfl ⟨_, rfl, kidsN1 ?_ ?_, ?_⟩
    · simp
    · exact cell1_new _ _ _ _ (by simp)
    · (repeat (refine Below.alloc ?_ (by simp <;> omega) _)); exact Below.refl _ _
  · go_enter Tryz.func152, Tryz.ntmps152
    go_wp2
    refine bodyPost_ret (v := topV 4 0 ⟨#[]⟩ (.slice (some ⟨w.heap.size + 5, 0, none⟩) 1 1)) (by simp [results, Tryz.results152, go_sem]) rfl ⟨_, rfl, kidsN1 ?_ ?_, ?_⟩
    · simp
    · exact cell1_new _ _ _ _ (by simp)
    · (repeat (refine Below.alloc ?_ (by simp <;> omega) _)); exact Below.refl _ _

theorem topN_bin (s : ByteArray) (x x' : Value) (hx : Ifc x) (hx' : Ifc x') (w : World) : Calls Tryz.prog 152 #[.iface 185 (.agg #[.string s, x, x'])] w fun e w' => ∃ sl, e = .returned (topV 5 0 s sl) ∧ KidsN w.heap.size w' sl [x, x'] ∧ Below w.heap.size w w' := by
  rcases hx with rfl | ⟨u, y, rfl⟩ <;> rcases hx' with rfl | ⟨u', y', rfl⟩
  · go_enter Tryz.func152, Tryz.ntmps152
    go_wp2
    refine bodyPost_ret (v := topV 5 0 s (.slice (some ⟨w.heap.size + 6, 0, none⟩) 2 2)) (by simp [results, Tryz.results152, go_sem]) rfl ⟨_, rfl, kidsN2 ?_ ?_ ?_, ?_⟩
    · simp
    · exact (cell2_new _ _ _ _ _ (by simp)).1
    · exact (cell2_new _ _ _ _ _ (by simp)).2
    · (repeat (refine Below.alloc ?_ (by simp <;> omega) _)); exact Below.refl _ _
  · go_enter Tryz.func152, Tryz.ntmps152
    go_wp2
    refine bodyPost_ret (v := topV 5 0 s (.slice (some ⟨w.heap.size + 6, 0, none⟩) 2 2)) (by simp [results, Tryz.results152, go_sem]) rfl ⟨_, rfl, kidsN2 ?_ ?_ ?_, ?_⟩
    · simp
    · exact (cell2_new _ _ _ _ _ (by simp)).1
    · exact (cell2_new _ _ _ _ _ (by simp)).2
    · (repeat (refine Below.alloc ?_ (by simp <;> omega) _)); exact Below.refl _ _
  · go_enter Tryz.func152, Tryz.ntmps152
    go_wp2
    refine bodyPost_ret (v := topV 5 0 s (.slice (some ⟨w.heap.size + 6, 0, none⟩) 2 2)) (by simp [results, Tryz.results152, go_sem]) rfl ⟨_, rfl, kidsN2 ?_ ?_ ?_, ?_⟩
    · simp
    · exact (cell2_new _ _ _ _ _ (by simp)).1
    · exact (cell2_new _ _ _ _ _ (by simp)).2
    · (repeat (refine Below.alloc ?_ (by simp <;> omega) _)); exact Below.refl _ _
  · go_enter Tryz.func152, Tryz.ntmps152
    go_wp2
    refine bodyPost_ret (v := topV 5 0 s (.slice (some ⟨w.heap.size + 6, 0, none⟩) 2 2)) (by simp [results, Tryz.results152, go_sem]) rfl ⟨_, rfl, kidsN2 ?_ ?_ ?_, ?_⟩
    · simp
    · exact (cell2_new _ _ _ _ _ (by simp)).1
    · exact (cell2_new _ _ _ _ _ (by simp)).2
    · (repeat (refine Below.alloc ?_ (by simp <;> omega) _)); exact Below.refl _ _


theorem topN_any {d : Nat} {t : T (d + 1)} (hc : Cl (d + 1) t) : ∃ k n s ps, t = mkT k n s ps ∧ ∀ w, Calls Tryz.prog 152 #[exV (d + 1) t] w fun e w' => ∃ sl, e = .returned (.agg #[.int .i64 k, .int .i64 n, .string s, sl]) ∧ KidsN w.heap.size w' sl (ps.map (exV d)) ∧ Below w.heap.size w w' := by
  rcases hc.cases with ⟨n, rfl⟩ | ⟨s, rfl⟩ | ⟨k, p, hk, rfl, hp⟩ | ⟨s, p, q, rfl, hp, hq⟩ | rfl
  · exact ⟨1, n, _, [], rfl, fun w => topN_lit n w⟩
  · exact ⟨2, 0, s, [], rfl, fun w => topN_ref s w⟩
  · rcases hk with rfl | rfl
    · exact ⟨3, 0, _, [p], rfl, fun w => topN_not (exV d p) (ifc_ex p) w⟩
    · exact ⟨4, 0, _, [p], rfl, fun w => topN_neg (exV d p) (ifc_ex p) w⟩
  · exact ⟨5, 0, s, [p, q], rfl, fun w => topN_bin s (exV d p) (exV d q) (ifc_ex p) (ifc_ex q) w⟩
  · exact ⟨0, 0, _, [], rfl, fun w => topN_nil w⟩
end Go.Proofs.YtccmmkhcacglhaaGreatDoor

/- What the program's Same does: what its rounds lean on. -/
namespace Go.Proofs.YtccmmkhcacglhaaGreatDoor
open Go.RowKit Go.Lib
set_option linter.unusedSimpArgs false
set_option linter.unusedVariables false
attribute [local go_sem ↓] Go.wp_at_zero Go.wp_at_succ

def alk (k n : Int) (s : ByteArray) (k' n' : Int) (s' : ByteArray) : Bool := decide (k = k') && decide (n = n') && decide (s = s')
set_option maxRecDepth 100000 in
set_option maxHeartbeats 4000000 in
theorem alike_any (k n : Int) (s : ByteArray) (a : Option Addr) (m : Nat) (k' n' : Int) (s' : ByteArray) (a' : Option Addr) (m' : Nat) (hk : k ≠ 6) (w : World) :
    Calls Tryz.prog 153 #[.agg #[.int .i64 k, .int .i64 n, .string s, .slice a m m], .agg #[.int .i64 k', .int .i64 n', .string s', .slice a' m' m']] w fun e w' => e = .returned (.bool (alk k n s k' n' s')) ∧ Below w.heap.size w w' := by
  have e6 : (k == 6) = false := beq_eq_false_iff_ne.2 hk
  have n6 : (k != 6) = true := by simp [hk]
  have hb : Below w.heap.size w ((w.alloc (.cells #[.int .i64 k, .int .i64 n, .string s, .slice a m m] 214)).alloc (.cells #[.int .i64 k', .int .i64 n', .string s', .slice a' m' m'] 214)) := ((Below.refl _ _).alloc (Nat.le_refl _) _).alloc (by simp) _
  unfold alk
  by_cases h1 : k = k'
  · subst h1
    rw [decide_eq_true rfl, Bool.true_and]
    by_cases h2 : n = n'
    · subst h2
      rw [decide_eq_true rfl, Bool.true_and]
      by_cases h3 : s = s'
      · subst h3
        rw [decide_eq_true rfl]
        go_enter Tryz.func153, Tryz.ntmps153
        go_wp2
        go_ret
        exact ⟨rfl, hb⟩
      · have e3 := bytes_ne h3
        rw [decide_eq_false h3]
        clear h3
        go_enter Tryz.func153, Tryz.ntmps153
        go_wp2
        go_ret
        exact ⟨rfl, hb⟩
    · have e2 : (n == n') = false := beq_eq_false_iff_ne.2 h2
      rw [decide_eq_false h2, Bool.false_and]
      go_enter Tryz.func153, Tryz.ntmps153
      go_wp2
      go_ret
      exact ⟨rfl, hb⟩
  · have e1 : (k == k') = false := beq_eq_false_iff_ne.2 h1
    rw [decide_eq_false h1, Bool.false_and, Bool.false_and]
    go_enter Tryz.func153, Tryz.ntmps153
    go_wp2
    go_ret
    exact ⟨rfl, hb⟩

theorem B4.keep' {w w' : World} {X : Nat} {a b c e : Value} (hb : Below w.heap.size w w') (h : B4 w X a b c e) : B4 w' X a b c e := h.keep hb
theorem cell_al {w : World} {p : Addr} {v : Value} {O : Obj} (h : w.cell? p = some v) : (w.alloc O).cell? p = some v := (((Below.refl w.heap.size w).alloc (Nat.le_refl _) O).cell (World.block_lt_of_cell? w _ h)).trans h
theorem cell_pt {w : World} {X Y j : Nat} {v a b c e : Value} (h : w.cell? ⟨Y, j, none⟩ = some v) (hne : Y ≠ X) : (put4 w X a b c e).cell? ⟨Y, j, none⟩ = some v := cell_far4 (by omega) (cell_far4 (by omega) (cell_far4 (by omega) (cell_far4 (by omega) h)))
theorem sz1 (w : World) (o : Obj) : w.heap.size + 1 = (w.alloc o).heap.size := by simp
theorem z4_al {w : World} {X : Nat} (h : B4 w X (.int .i64 0) (.int .i64 0) (.string ⟨#[]⟩) (.slice none 0 0)) (O : Obj) : (w.alloc O).cell? ⟨X, 0, none⟩ = some (.int .i64 0) ∧ (w.alloc O).cell? ⟨X, 1, none⟩ = some (.int .i64 0) ∧ (w.alloc O).cell? ⟨X, 2, none⟩ = some (.string ⟨#[]⟩) ∧ (w.alloc O).cell? ⟨X, 3, none⟩ = some (.slice none 0 0) ∧
    (w.alloc O).frozen? ⟨X, 0, none⟩ = false ∧ (w.alloc O).frozen? ⟨X, 1, none⟩ = false ∧ (w.alloc O).frozen? ⟨X, 2, none⟩ = false ∧ (w.alloc O).frozen? ⟨X, 3, none⟩ = false := by
  have k := h.keep ((Below.refl _ _).alloc (Nat.le_refl _) O)
  exact ⟨k.c0, k.c1, k.c2, k.c3, k.f0, k.f1, k.f2, k.f3⟩
def samS (x y : Sg) : Bool := samC x.1 y.1 x.2 y.2
def oneB (u v : Value) : Prop := ∀ g, u.ownBlock = some g → v.ownBlock = some g → False
abbrev z4 (w : World) (X : Nat) : Prop := B4 w X (.int .i64 0) (.int .i64 0) (.string ⟨#[]⟩) (.slice none 0 0)

theorem cell_dr {w : World} {p : Addr} {v : Value} (h : w.cell? p = some v) : w.drew.cell? p = some v := h
theorem ne_pt {X Y i j : Nat} (h : Y ≠ X) : ¬ (X = Y ∧ i = j) := fun e => h e.1.symm
abbrev O0 : Obj := .cells #[.int .i64 0, .int .i64 0, .string ⟨#[]⟩, .slice none 0 0] 214
theorem bw0 {w w1 : World} (b : Below w.drew.heap.size w.drew w1) : Below w.heap.size w w1 := ((Below.refl _ w).drew).trans b
theorem bw1 {w w1 : World} (b : Below (w.alloc (.cells #[.int .i64 0, .int .i64 0, .string ⟨#[]⟩, .slice none 0 0] 214)).drew.heap.size (w.alloc (.cells #[.int .i64 0, .int .i64 0, .string ⟨#[]⟩, .slice none 0 0] 214)).drew w1) : Below w.heap.size w w1 := (((Below.refl _ w).alloc (Nat.le_refl _) _).drew).trans (b.mono (by simp))
theorem bw2 {w w1 : World} (b : Below ((w.alloc (.cells #[.int .i64 0, .int .i64 0, .string ⟨#[]⟩, .slice none 0 0] 214)).alloc (.cells #[.int .i64 0, .int .i64 0, .string ⟨#[]⟩, .slice none 0 0] 214)).drew.heap.size ((w.alloc (.cells #[.int .i64 0, .int .i64 0, .string ⟨#[]⟩, .slice none 0 0] 214)).alloc (.cells #[.int .i64 0, .int .i64 0, .string ⟨#[]⟩, .slice none 0 0] 214)).drew w1) : Below w.heap.size w w1 := ((((Below.refl _ w).alloc (Nat.le_refl _) _).alloc (by simp) _).drew).trans (b.mono (by simp; omega))
theorem bx1 {w w1 : World} (b : Below (w.alloc (.cells #[.int .i64 0, .int .i64 0, .string ⟨#[]⟩, .slice none 0 0] 214)).heap.size (w.alloc (.cells #[.int .i64 0, .int .i64 0, .string ⟨#[]⟩, .slice none 0 0] 214)) w1) : Below w.heap.size w w1 := ((Below.refl _ w).alloc (Nat.le_refl _) _).trans (b.mono (by simp))
theorem bx2 {w w1 : World} (b : Below ((w.alloc (.cells #[.int .i64 0, .int .i64 0, .string ⟨#[]⟩, .slice none 0 0] 214)).alloc (.cells #[.int .i64 0, .int .i64 0, .string ⟨#[]⟩, .slice none 0 0] 214)).heap.size ((w.alloc (.cells #[.int .i64 0, .int .i64 0, .string ⟨#[]⟩, .slice none 0 0] 214)).alloc (.cells #[.int .i64 0, .int .i64 0, .string ⟨#[]⟩, .slice none 0 0] 214)) w1) : Below w.heap.size w w1 := (((Below.refl _ w).alloc (Nat.le_refl _) _).alloc (by simp) _).trans (b.mono (by simp; omega))
theorem zC1 {w w1 : World} (b : Below (w.alloc (.cells #[.int .i64 0, .int .i64 0, .string ⟨#[]⟩, .slice none 0 0] 214)).heap.size (w.alloc (.cells #[.int .i64 0, .int .i64 0, .string ⟨#[]⟩, .slice none 0 0] 214)) w1) : z4 w1 w.heap.size := (B4.new w _ _ _ _ _ _ rfl).keep b
theorem zC2 {w w1 : World} (b : Below ((w.alloc (.cells #[.int .i64 0, .int .i64 0, .string ⟨#[]⟩, .slice none 0 0] 214)).alloc (.cells #[.int .i64 0, .int .i64 0, .string ⟨#[]⟩, .slice none 0 0] 214)).heap.size ((w.alloc (.cells #[.int .i64 0, .int .i64 0, .string ⟨#[]⟩, .slice none 0 0] 214)).alloc (.cells #[.int .i64 0, .int .i64 0, .string ⟨#[]⟩, .slice none 0 0] 214)) w1) : z4 w1 w.heap.size := ((B4.new w _ _ _ _ 214 _ rfl).keep ((Below.refl _ _).alloc (Nat.le_refl _) _)).keep b
theorem zD2 {w w1 : World} (b : Below ((w.alloc (.cells #[.int .i64 0, .int .i64 0, .string ⟨#[]⟩, .slice none 0 0] 214)).alloc (.cells #[.int .i64 0, .int .i64 0, .string ⟨#[]⟩, .slice none 0 0] 214)).heap.size ((w.alloc (.cells #[.int .i64 0, .int .i64 0, .string ⟨#[]⟩, .slice none 0 0] 214)).alloc (.cells #[.int .i64 0, .int .i64 0, .string ⟨#[]⟩, .slice none 0 0] 214)) w1) : z4 w1 (w.heap.size + 1) := (B4.new (w.alloc (.cells #[.int .i64 0, .int .i64 0, .string ⟨#[]⟩, .slice none 0 0] 214)) _ _ _ _ _ _ (sz1 w _)).keep b
theorem zA1 {w w1 : World} (b : Below (w.alloc (.cells #[.int .i64 0, .int .i64 0, .string ⟨#[]⟩, .slice none 0 0] 214)).drew.heap.size (w.alloc (.cells #[.int .i64 0, .int .i64 0, .string ⟨#[]⟩, .slice none 0 0] 214)).drew w1) : z4 w1 w.heap.size := ((B4.new w _ _ _ _ _ _ rfl).keep ((Below.refl _ _).drew)).keep b
theorem zA2 {w w1 : World} (b : Below ((w.alloc (.cells #[.int .i64 0, .int .i64 0, .string ⟨#[]⟩, .slice none 0 0] 214)).alloc (.cells #[.int .i64 0, .int .i64 0, .string ⟨#[]⟩, .slice none 0 0] 214)).drew.heap.size ((w.alloc (.cells #[.int .i64 0, .int .i64 0, .string ⟨#[]⟩, .slice none 0 0] 214)).alloc (.cells #[.int .i64 0, .int .i64 0, .string ⟨#[]⟩, .slice none 0 0] 214)).drew w1) : z4 w1 w.heap.size := (((B4.new w _ _ _ _ 214 _ rfl).keep ((Below.refl _ _).alloc (Nat.le_refl _) _)).keep ((Below.refl _ _).drew)).keep b
theorem zB2 {w w1 : World} (b : Below ((w.alloc (.cells #[.int .i64 0, .int .i64 0, .string ⟨#[]⟩, .slice none 0 0] 214)).alloc (.cells #[.int .i64 0, .int .i64 0, .string ⟨#[]⟩, .slice none 0 0] 214)).drew.heap.size ((w.alloc (.cells #[.int .i64 0, .int .i64 0, .string ⟨#[]⟩, .slice none 0 0] 214)).alloc (.cells #[.int .i64 0, .int .i64 0, .string ⟨#[]⟩, .slice none 0 0] 214)).drew w1) : z4 w1 (w.heap.size + 1) := ((B4.new (w.alloc (.cells #[.int .i64 0, .int .i64 0, .string ⟨#[]⟩, .slice none 0 0] 214)) _ _ _ _ _ _ (sz1 w _)).keep ((Below.refl _ _).drew)).keep b

theorem Kids.put {w : World} {sl : Value} {L : List Value} {X : Nat} {a b c e : Value} (h : Kids w sl L) (hi : ∀ v ∈ L, Ifc v) (hz : z4 w X) : Kids (put4 w X a b c e) sl L := by
  rcases h with h | ⟨g, hv, hc⟩
  · exact .inl h
  · refine .inr ⟨g, hv, fun i hl => ?_⟩
    have hne : g ≠ X := fun e => by
      subst e
      have h0 := hc 0 (by omega)
      rw [hz.c0] at h0
      have h1 := Option.some.inj h0
      rcases hi _ (List.getElem_mem (by omega : 0 < L.length)) with q | ⟨u, y, q⟩
      · rw [q] at h1; cases h1
      · rw [q] at h1; cases h1
    exact cell_pt (hc i hl) hne
theorem KidsN.put {lo : Nat} {w : World} {sl : Value} {L : List Value} {X : Nat} {a b c e : Value} (h : KidsN lo w sl L) (hi : ∀ v ∈ L, Ifc v) (hz : z4 w X) : KidsN lo (put4 w X a b c e) sl L := ⟨h.1.put hi hz, h.2⟩
theorem KidsN.al {lo : Nat} {w : World} {sl : Value} {L : List Value} {O : Obj} (h : KidsN lo w sl L) : KidsN lo (w.alloc O) sl L := ⟨h.1.below ((Below.refl _ _).alloc (Nat.le_refl _) O) (Nat.le_refl _), h.2⟩
theorem B4.at {w : World} {X : Nat} {a b c e : Value} (h : B4 w X a b c e) : At4 w X a b c e := ⟨h.c0, h.c1, h.c2, h.c3⟩
/-- Both are there, in blocks of their own. -/
def Both (wr wc : World) (X Y : Nat) (a b c sl a' b' c' sl' : Value) (L M : List Value) : Prop :=
  At4 wc X a b c sl ∧ At4 wc Y a' b' c' sl' ∧ KidsN wr.heap.size wc sl L ∧ KidsN wr.heap.size wc sl' M ∧ wr.heap.size ≤ X ∧ wr.heap.size ≤ Y ∧ Below wr.heap.size wr wc
section
variable {wr w2 : World} {X Y : Nat} {a b c sl a' b' c' sl' : Value} {L M : List Value}
theorem fin_C (bv : Below wr.heap.size wr w2) (hT : (∀ v ∈ L, Ifc v) ∧ (∀ v ∈ M, Ifc v)) (K1 : KidsN wr.heap.size w2 sl L) (K2 : KidsN wr.heap.size w2 sl' M) (qX : z4 w2 X) (qY : z4 w2 Y) (hne : X ≠ Y) (hX : wr.heap.size ≤ X) (hY : wr.heap.size ≤ Y) :
    Both wr (put4 (put4 w2 X a b c sl) Y a' b' c' sl') X Y a b c sl a' b' c' sl' L M := by
  have qY' := qY.farPut hne a b c sl
  exact ⟨((qX.put a b c sl).farPut hne.symm a' b' c' sl').at, (qY'.put a' b' c' sl').at, (K1.put hT.1 qX).put hT.1 qY', (K2.put hT.2 qX).put hT.2 qY', hX, hY, below_put (below_put bv hX _ _ _ _) hY _ _ _ _⟩
theorem fin_B (bv : Below wr.heap.size wr w2) (hT : (∀ v ∈ L, Ifc v) ∧ (∀ v ∈ M, Ifc v)) (K1 : KidsN wr.heap.size w2 sl L) (K2 : KidsN wr.heap.size w2 sl' M) (qX : z4 w2 X) (hX : wr.heap.size ≤ X) :
    Both wr (put4 (put4 (w2.alloc (.cells #[.int .i64 0, .int .i64 0, .string ⟨#[]⟩, .slice none 0 0] 214)) X a b c sl) w2.heap.size a' b' c' sl') X w2.heap.size a b c sl a' b' c' sl' L M :=
  fin_C (bv.alloc bv.size _) hT K1.al K2.al (qX.keep ((Below.refl _ _).alloc (Nat.le_refl _) _)) (B4.new w2 _ _ _ _ _ _ rfl) (Nat.ne_of_lt qX.lt) hX bv.size
theorem fin_D (bv : Below wr.heap.size wr w2) (hT : (∀ v ∈ L, Ifc v) ∧ (∀ v ∈ M, Ifc v)) (K1 : KidsN wr.heap.size w2 sl L) (K2 : KidsN wr.heap.size w2 sl' M) (qY : z4 w2 Y) (hY : wr.heap.size ≤ Y) :
    Both wr (put4 (w2.alloc (.cells #[a, b, c, sl] 214)) Y a' b' c' sl') w2.heap.size Y a b c sl a' b' c' sl' L M := by
  have q := qY.keep ((Below.refl w2.heap.size w2).alloc (Nat.le_refl _) (.cells #[a, b, c, sl] 214))
  have h := B4.new w2 a b c sl 214 w2.heap.size rfl
  exact ⟨(h.farPut (Nat.ne_of_lt qY.lt) a' b' c' sl').at, (q.put a' b' c' sl').at, K1.al.put hT.1 q, K2.al.put hT.2 q, bv.size, hY, below_put (bv.alloc bv.size _) hY _ _ _ _⟩
theorem fin_A (bv : Below wr.heap.size wr w2) (K1 : KidsN wr.heap.size w2 sl L) (K2 : KidsN wr.heap.size w2 sl' M) :
    Both wr ((w2.alloc (.cells #[a, b, c, sl] 214)).alloc (.cells #[a', b', c', sl'] 214)) w2.heap.size (w2.heap.size + 1) a b c sl a' b' c' sl' L M := by
  have h := (B4.new w2 a b c sl 214 w2.heap.size rfl).keep ((Below.refl _ _).alloc (Nat.le_refl _) (.cells #[a', b', c', sl'] 214))
  have h' := B4.new (w2.alloc (.cells #[a, b, c, sl] 214)) a' b' c' sl' 214 (w2.heap.size + 1) (sz1 w2 _)
  exact ⟨h.at, h'.at, K1.al.al, K2.al.al, bv.size, Nat.le_succ_of_le bv.size, (bv.alloc bv.size _).alloc (by simp; exact Nat.le_succ_of_le bv.size) _⟩
theorem fin_E (bv : Below wr.heap.size wr w2) (K1 : KidsN wr.heap.size w2 sl L) (K2 : KidsN wr.heap.size w2 sl' M) :
    Both wr ((w2.alloc (.cells #[a', b', c', sl'] 214)).alloc (.cells #[a, b, c, sl] 214)) (w2.heap.size + 1) w2.heap.size a b c sl a' b' c' sl' L M := by
  have h := (B4.new w2 a' b' c' sl' 214 w2.heap.size rfl).keep ((Below.refl _ _).alloc (Nat.le_refl _) (.cells #[a, b, c, sl] 214))
  have h' := B4.new (w2.alloc (.cells #[a', b', c', sl'] 214)) a b c sl 214 (w2.heap.size + 1) (sz1 w2 _)
  exact ⟨h'.at, h.at, K1.al.al, K2.al.al, Nat.le_succ_of_le bv.size, bv.size, (bv.alloc bv.size _).alloc (by simp; exact Nat.le_succ_of_le bv.size) _⟩
end

theorem allz_app {α β : Type} (f : α → β → Bool) : ∀ (x : List α) (y : List β) (a : List α) (b : List β), x.length = y.length → allz f (x ++ a) (y ++ b) = (allz f x y && allz f a b)
  | [], [], a, b, _ => by simp [allz]
  | [], _ :: _, _, _, h => by simp at h
  | _ :: _, [], _, _, h => by simp at h
  | p :: x, q :: y, a, b, h => by
    show (f p q && allz f (x ++ a) (y ++ b)) = (f p q && allz f x y && allz f a b)
    rw [allz_app f x y a b (by simpa using h), Bool.and_assoc]
theorem allz_kid {d e : Nat} : ∀ (ps : List (T d)) (qs : List (T e)), allz samS (kidS ps) (kidS qs) = allz (samC d e) ps qs
  | [], _ => by simp [kidS, allz]
  | _ :: _, [] => by simp [kidS, allz]
  | p :: r, q :: t => by
    show (samC d e p q && allz samS (kidS r) (kidS t)) = _
    rw [allz_kid r t]; rfl
theorem cl_n {d : Nat} {k n : Int} {s : ByteArray} {ps : List (T d)} (h : Cl (d + 1) (mkT k n s ps)) : k ≠ 6 ∧ ps.length = if k = 3 ∨ k = 4 then 1 else if k = 5 then 2 else 0 := by
  rcases h with ⟨h1, _, h3⟩ | ⟨h1, _, h3⟩ | ⟨h1, _, _, p, h4, _⟩ | ⟨h1, _, p, q, h3, _⟩ | ⟨h1, _, _, h4⟩
  · simp only at h1 h3; subst h1 h3; simp
  · simp only at h1 h3; subst h1 h3; simp
  · simp only at h1 h4; subst h4; rcases h1 with rfl | rfl <;> simp
  · simp only at h1 h3; subst h1 h3; simp
  · simp only at h1 h4; subst h1 h4; simp
theorem sam_no {d e : Nat} {k n k' n' : Int} {s s' : ByteArray} {ps : List (T d)} {qs : List (T e)} (h : alk k n s k' n' s' = false) : samS ⟨d + 1, mkT k n s ps⟩ ⟨e + 1, mkT k' n' s' qs⟩ = false := by
  show samC (d + 1) (e + 1) (mkT k n s ps) (mkT k' n' s' qs) = false
  rw [samC_mk]
  unfold alk at h
  rw [h]; simp
theorem sam_yes {d e : Nat} {k n k' n' : Int} {s s' : ByteArray} {ps : List (T d)} {qs : List (T e)} (h : alk k n s k' n' s' = true) (hc : Cl (d + 1) (mkT k n s ps)) (hc' : Cl (e + 1) (mkT k' n' s' qs)) :
    ps.length = qs.length ∧ samS ⟨d + 1, mkT k n s ps⟩ ⟨e + 1, mkT k' n' s' qs⟩ = allz (samC d e) ps qs := by
  have hk : k = k' := by unfold alk at h; simp only [Bool.and_eq_true, decide_eq_true_eq] at h; exact h.1.1
  have hl : ps.length = qs.length := by rw [(cl_n hc).2, (cl_n hc').2, hk]
  refine ⟨hl, ?_⟩
  show samC (d + 1) (e + 1) (mkT k n s ps) (mkT k' n' s' qs) = _
  rw [samC_mk]
  unfold alk at h
  rw [h, decide_eq_true hl]; simp
theorem KidsN.gr {lo g : Nat} {w w' : World} {sl : Value} {L : List Value} (h : KidsN lo w sl L) (hg : w.grownBy w' (some g)) (hl : g < lo) : KidsN lo w' sl L := by
  refine ⟨?_, h.2⟩
  rcases h.1 with q | ⟨b, hv, hc⟩
  · exact .inl q
  · refine .inr ⟨b, hv, fun i hi => hg.cell (hc i hi) (fun e => ?_)⟩
    have := h.2 b (by rw [hv]; rfl)
    have e2 : b = g := by simpa using e
    omega
theorem KidsN.dr {lo : Nat} {w : World} {sl : Value} {L : List Value} (h : KidsN lo w sl L) : KidsN lo w.drew sl L := ⟨h.1.below ((Below.refl _ _).drew) (Nat.le_refl _), h.2⟩
/-- What lies there at the start. -/
def Start (w : World) (x y : Value) (V : Bool) : Prop := ∃ S S', Stk ((w.alloc (.cells #[x] 139)).alloc (.cells #[y] 139)) w.heap.size (.slice (some ⟨w.heap.size, 0, none⟩) 1 1) S ∧ Stk ((w.alloc (.cells #[x] 139)).alloc (.cells #[y] 139)) w.heap.size (.slice (some ⟨w.heap.size + 1, 0, none⟩) 1 1) S' ∧
  S.length = S'.length ∧ (∀ y ∈ S, ClS y) ∧ (∀ y ∈ S', ClS y) ∧ allz samS S S' = V ∧ (S.map cntS).sum ≤ 2000 ∧ (S'.map cntS).sum ≤ 2000
end Go.Proofs.YtccmmkhcacglhaaGreatDoor
