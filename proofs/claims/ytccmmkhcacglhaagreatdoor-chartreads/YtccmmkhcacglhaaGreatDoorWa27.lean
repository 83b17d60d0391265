import Derived.Test.YtccmmkhcacglhaaGreatDoorWa06
import Derived.Test.YtccmmkhcacglhaaGreatDoorWa07
import Derived.Test.YtccmmkhcacglhaaGreatDoorWa11
import Derived.Test.YtccmmkhcacglhaaGreatDoorWa09
import Derived.Deep.RegionHeldLaw
import Derived.Test.YtccmmkhcacglhaaGreatDoorWa25

/- What taking tells of its expression. -/
namespace Go.Proofs.YtccmmkhcacglhaaGreatDoor
open Go.RowKit Go.Lib
set_option linter.unusedSimpArgs false
set_option linter.unusedVariables false
theorem cl_no : ClX noX := cl_none (d := 0)
theorem take_cl {ws : List Wd} (h : ∀ x ∈ ws, OneW x.1 x.2.1) : ClX (takeC (ws.map tkW)).1 ∧ cntX (takeC (ws.map tkW)).1 ≤ 2000 := by
  have hb : BadOr _ 0 (rdC (ws.map tkW)) := fine_read h _ 1 0 (by omega) (by omega)
  unfold takeC
  rcases hb with ⟨e1, e2⟩ | e1
  · rw [if_neg (by omega)]
    by_cases hq : fmX (rdC (ws.map tkW)).1 = true
    · rw [if_pos hq]
      have := (fm_parts hq).1
      exact ⟨e2.1.cl, by show cnt _ _ ≤ 2000; simp only; omega⟩
    · rw [if_neg hq]; exact ⟨cl_no, (show cntX noX ≤ 2000 by decide)⟩
  · rw [if_pos e1]; exact ⟨cl_no, (show cntX noX ≤ 2000 by decide)⟩
end Go.Proofs.YtccmmkhcacglhaaGreatDoor

/- What a chart that was read holds: clean expressions, rows that are short. -/
namespace Go.Proofs.YtccmmkhcacglhaaGreatDoor
open Go.RowKit Go.Lib
set_option linter.unusedSimpArgs false
set_option linter.unusedVariables false

/-- The words that are left are words, and few. -/
def Wds (r : RsC) : Prop := (∀ x ∈ r.1, OneW x.1 x.2.1) ∧ r.1.length ≤ 3000
theorem wds_sub {r r' : RsC} (h : Wds r) (hs : ∀ x ∈ r'.1, x ∈ r.1) (hl : r'.1.length ≤ r.1.length) : Wds r' := ⟨fun x hx => h.1 x (hs x hx), Nat.le_trans hl h.2⟩
theorem wds_fail {r : RsC} (h : Wds r) (e : Int) (p : Pl) : Wds (failC e p r) := wds_sub h (by rw [failC_len]; exact fun _ => id) (by rw [failC_len]; exact Nat.le_refl _)
theorem wds_take {r : RsC} (h : Wds r) (fin : Pl) (s : List UInt8) : Wds (takeR fin s r) := by
  refine wds_sub h ?_ (takeR_len fin s r)
  unfold takeR
  split
  · exact fun x hx => List.mem_of_mem_tail hx
  · rw [failC_len]; exact fun _ => id
theorem wds_name {r : RsC} (h : Wds r) (fin : Pl) : Wds (nameR fin r).2 := by
  refine wds_sub h ?_ (nameR_len fin r)
  unfold nameR
  cases hr : r.1 with
  | nil => simp only; rw [failC_len, hr]; exact fun _ => id
  | cons w l =>
    simp only
    split
    · exact fun x hx => List.mem_cons_of_mem _ hx
    · rw [failC_len, hr]; exact fun _ => id
theorem wds_num {r : RsC} (h : Wds r) (fin : Pl) : Wds (numR fin r).2 := by
  refine wds_sub h ?_ (numR_len fin r)
  unfold numR
  cases hr : r.1 with
  | nil => simp only; rw [failC_len, hr]; exact fun _ => id
  | cons w l =>
    simp only
    split
    · exact fun x hx => List.mem_cons_of_mem _ hx
    · rw [failC_len, hr]; exact fun _ => id
theorem wds_expr {r : RsC} (h : Wds r) (fin : Pl) : Wds (exprR fin r).2 := by
  refine wds_sub h ?_ (exprR_len fin r)
  unfold exprR
  split
  · exact fun _ => id
  · split
    · exact fun x hx => List.mem_of_mem_drop hx
    · split
      · rw [failC_len]; exact fun _ => id
      · rw [failC_len]; exact fun x hx => List.mem_of_mem_drop hx
theorem expr_cl {r : RsC} (h : Wds r) (fin : Pl) : ClX (exprR fin r).1 := by
  unfold exprR
  split
  · exact cl_no
  · split
    · exact (take_cl h.1).1
    · split
      · exact (take_cl h.1).1
      · exact (take_cl h.1).1
/-- A form is no nil. -/
theorem fm_iface {x : Sx} (h : ClX x) (hf : fmX x = true) : ∃ u y, exX x = .iface u y := by
  obtain ⟨d, t⟩ := x
  cases d with
  | zero => exact Empty.elim t
  | succ d =>
    rcases Cl.cases h with ⟨n, rfl⟩ | ⟨s, rfl⟩ | ⟨k, p, hk, rfl, _⟩ | ⟨s, p, q, rfl, _, _⟩ | rfl
    · exact ⟨_, _, rfl⟩
    · exact ⟨_, _, rfl⟩
    · rcases hk with rfl | rfl <;> exact ⟨_, _, rfl⟩
    · exact ⟨_, _, rfl⟩
    · exact absurd hf (by rw [show fmX (⟨d + 1, none0⟩ : Sx) = false from rfl]; decide)
theorem expr_some {r : RsC} (h : Wds r) (fin : Pl) (he : (exprR fin r).2.2.2 = 0) : ∃ u y, exX (exprR fin r).1 = .iface u y := by
  have hc := take_cl h.1
  unfold exprR at he ⊢
  split at he
  · rename_i h1; exact absurd he h1
  · rename_i h1
    rw [if_neg h1]
    split at he
    · rename_i h2
      rw [if_pos h2]
      refine fm_iface hc.1 ?_
      unfold takeC at h2 ⊢
      split at h2
      · exact absurd (show (12 : Int) = 0 from h2) (by decide)
      · rename_i h3
        rw [if_neg h3]
        split at h2
        · rename_i h4; rw [if_pos h4]; exact h4
        · exact absurd (show (13 : Int) = 0 from h2) (by decide)
    · split at he
      · exact absurd he (failC_bad (by decide) _ _)
      · rename_i h2 h3; exact absurd he (failC_bad h2 _ _)
theorem sets_ok (fin : Pl) : ∀ (g : Nat) (acc : List (List UInt8 × Sx)) (r : RsC), Wds r → (∀ x ∈ acc, ClX x.2) → (∀ x ∈ (setsR fin g acc r).1, ClX x.2) ∧ (setsR fin g acc r).1.length ≤ acc.length + r.1.length ∧ Wds (setsR fin g acc r).2
  | 0, acc, r, h, ha => ⟨ha, Nat.le_add_right _ _, h⟩
  | g + 1, acc, r, h, ha => by
    unfold setsR
    split
    · rename_i hi
      have hl := takeR_less fin hi
      have w1 := wds_name (wds_take h fin wSet) fin
      have w2 := wds_take w1 fin [61]
      obtain ⟨i1, i2, i3⟩ := sets_ok fin g (acc ++ [((nameR fin (takeR fin wSet r)).1.1, (exprR fin (takeR fin [61] (nameR fin (takeR fin wSet r)).2)).1)]) (exprR fin (takeR fin [61] (nameR fin (takeR fin wSet r)).2)).2 (wds_expr w2 fin) (fun x hx => by
        rcases List.mem_append.1 hx with hx | hx
        · exact ha x hx
        · rw [List.mem_singleton.1 hx]; exact expr_cl w2 fin)
      refine ⟨i1, ?_, i3⟩
      have g1 := ((goes_name fin (takeR fin wSet r)).trans ((goes_take fin [61] _).trans (goes_expr fin _))).1
      rw [List.length_append, List.length_singleton] at i2
      simp only
      omega
    · exact ⟨ha, Nat.le_add_right _ _, h⟩
/-- What an on holds. -/
def OkO (o : OnC) : Prop := ClX o.2.1.2 ∧ (o.2.1.1 = false → o.2.1.2 = noX) ∧ (o.2.1.1 = true → ∃ u y, exX o.2.1.2 = .iface u y) ∧ (∀ x ∈ o.2.2.2.1, ClX x.2) ∧ o.2.2.2.1.length ≤ 3001
theorem wds_on {r : RsC} (h : Wds r) (fin : Pl) : Wds (onR fin r).2 ∧ ((onR fin r).2.2.2 = 0 → OkO (onR fin r).1) := by
  have w1 := wds_name (wds_take h fin wOn) fin
  unfold onR
  simp only
  generalize nameR fin (takeR fin wOn r) = A at *
  by_cases hi : isC wIf A.2 = true
  · rw [if_pos hi]
    have w2 := wds_take w1 fin wIf
    have c2 := expr_cl w2 fin
    have s2 := expr_some w2 fin
    have w3 := wds_expr w2 fin
    generalize exprR fin (takeR fin wIf A.2) = E at *
    simp only
    have w4 := wds_name (wds_take w3 fin wGo) fin
    have g4 := (goes_take fin wGo E.2).trans (goes_name fin (takeR fin wGo E.2))
    generalize nameR fin (takeR fin wGo E.2) = N at *
    obtain ⟨i1, i2, i3⟩ := sets_ok fin (N.2.1.length + 1) [] N.2 w4 (fun x hx => by simp at hx)
    refine ⟨i3, fun he => ⟨c2, fun e => Bool.noConfusion e, fun _ => s2 (g4.2 ((goes_sets fin _ _ _).2 he)), i1, ?_⟩⟩
    have := w4.2
    rw [List.length_nil] at i2
    simp only
    omega
  · rw [if_neg hi]
    simp only
    have w4 := wds_name (wds_take w1 fin wGo) fin
    generalize nameR fin (takeR fin wGo A.2) = N at *
    obtain ⟨i1, i2, i3⟩ := sets_ok fin (N.2.1.length + 1) [] N.2 w4 (fun x hx => by simp at hx)
    refine ⟨i3, fun he => ⟨cl_no, fun _ => rfl, fun e => Bool.noConfusion e, i1, ?_⟩⟩
    have := w4.2
    rw [List.length_nil] at i2
    simp only
    omega
theorem wds_kind {r : RsC} (h : Wds r) (fin : Pl) : Wds (kindR fin r).2 := by
  unfold kindR
  split
  · exact wds_take h fin _
  · split
    · exact wds_take h fin _
    · split
      · exact wds_num (wds_take (wds_num (wds_take (wds_name (wds_take (wds_name (wds_take h fin _) fin) fin _) fin) fin _) fin) fin _) fin
      · exact h
theorem in_ok {α : Type} (fin : Pl) (inner : RsC → α × RsC) (Q : α → Prop) (hw : ∀ r, Wds r → Wds (inner r).2) (hq : ∀ r, Wds r → (inner r).2.2.2 = 0 → Q (inner r).1) (hg : ∀ r, Goes r (inner r).2) (hl : ∀ r, (inner r).2.2.2 = 0 → (inner r).2.1.length < r.1.length) :
    ∀ (g : Nat) (os : List OnC) (ss : List α) (r : RsC), Wds r → (∀ o ∈ os, OkO o) → (∀ x ∈ ss, Q x) → Wds (inR fin inner g os ss r).2 ∧ ((inR fin inner g os ss r).2.2.2 = 0 → (∀ o ∈ (inR fin inner g os ss r).1.1, OkO o) ∧ (∀ x ∈ (inR fin inner g os ss r).1.2, Q x) ∧ (inR fin inner g os ss r).1.1.length + (inR fin inner g os ss r).1.2.length ≤ os.length + ss.length + r.1.length) := by
  have key : ∀ (g : Nat) (os : List OnC) (ss : List α) (r : RsC), Wds r → Wds (inR fin inner g os ss r).2 := by
    intro g
    induction g with
    | zero => exact fun os ss r h => h
    | succ g ih =>
      intro os ss r h
      unfold inR
      split
      · split
        · exact ih _ _ _ (wds_on h fin).1
        · exact ih _ _ _ (hw r h)
      · exact h
  intro g
  induction g with
  | zero => exact fun os ss r h ho hs => ⟨h, fun _ => ⟨ho, hs, Nat.le_add_right _ _⟩⟩
  | succ g ih =>
    intro os ss r h ho hs
    refine ⟨key _ _ _ _ h, ?_⟩
    unfold inR
    split
    · split
      · rename_i h1 h2
        intro he
        have h0 := (goes_in fin inner hg g _ _ _).2 he
        have hk := (wds_on h fin).2 h0
        obtain ⟨j1, j2, j3⟩ := (ih (os ++ [(onR fin r).1]) ss (onR fin r).2 (wds_on h fin).1 (fun o hx => by
          rcases List.mem_append.1 hx with hx | hx
          · exact ho o hx
          · rw [List.mem_singleton.1 hx]; exact hk) hs).2 he
        refine ⟨j1, j2, ?_⟩
        have hll := on_less (fin := fin) h2
        rw [List.length_append, List.length_singleton] at j3
        omega
      · rename_i h1 h2
        intro he
        have h0 := (goes_in fin inner hg g _ _ _).2 he
        obtain ⟨j1, j2, j3⟩ := (ih os (ss ++ [(inner r).1]) (inner r).2 (hw r h) ho (fun o hx => by
          rcases List.mem_append.1 hx with hx | hx
          · exact hs o hx
          · rw [List.mem_singleton.1 hx]; exact hq r h h0)).2 he
        refine ⟨j1, j2, ?_⟩
        have hll := hl r h0
        rw [List.length_append, List.length_singleton] at j3
        omega
    · exact fun _ => ⟨ho, hs, Nat.le_add_right _ _⟩
/-- What a state holds. -/
def OkS : (d : Nat) → St d → Prop
  | 0, t => Empty.elim t
  | d + 1, t => (∀ o ∈ t.1.2.2.2.2, OkO o) ∧ t.1.2.2.2.2.length ≤ 3001 ∧ t.2.length ≤ 3001 ∧ ∀ x ∈ t.2, OkS d x
theorem st_ok : ∀ (fin : Pl) (k : Nat) (r : RsC), Wds r → Wds (stR fin k r).2 ∧ ((stR fin k r).2.2.2 = 0 → OkS (k + 1) (stR fin k r).1)
  | fin, 0, r, h => ⟨wds_fail h _ _, fun he => absurd he (failC_bad (by split <;> decide) _ r)⟩
  | fin, k + 1, r, h => by
    have w1 := wds_kind (wds_take (wds_name (wds_take h fin wState) fin) fin [123]) fin
    obtain ⟨i1, i2⟩ := in_ok fin (stR fin k) (OkS (k + 1)) (fun r h => (st_ok fin k r h).1) (fun r h => (st_ok fin k r h).2) (fun r => (goes_st fin k r).1) (fun r => (goes_st fin k r).2) ((kindR fin (takeR fin [123] (nameR fin (takeR fin wState r)).2)).2.1.length + 1) [] [] _ w1 (fun x hx => by simp at hx) (fun x hx => by simp at hx)
    refine ⟨wds_take i1 fin [125], fun he => ?_⟩
    obtain ⟨j1, j2, j3⟩ := i2 ((goes_take fin [125] _).2 he)
    have := w1.2
    simp only [List.length_nil] at j3
    exact ⟨j1, by show _ ≤ 3001; simp only [stR]; omega, by show _ ≤ 3001; simp only [stR]; omega, j2⟩
theorem sts_ok (fin : Pl) : ∀ (g : Nat) (acc : List (St 7)) (r : RsC), Wds r → (∀ x ∈ acc, OkS 7 x) → (stsR fin g acc r).2.2.2 = 0 → (∀ x ∈ (stsR fin g acc r).1, OkS 7 x) ∧ (stsR fin g acc r).1.length ≤ acc.length + r.1.length
  | 0, acc, r, h, ha, _ => ⟨ha, Nat.le_add_right _ _⟩
  | g + 1, acc, r, h, ha, he => by
    unfold stsR at he ⊢
    split at he
    · rename_i h1
      rw [if_pos h1]
      have h0 : (stR fin 6 r).2.2.2 = 0 := by
        by_cases hz : (stR fin 6 r).2.2.2 = 0
        · exact hz
        · rw [sts_err hz] at he; exact absurd he hz
      obtain ⟨j1, j2⟩ := sts_ok fin g (acc ++ [(stR fin 6 r).1]) (stR fin 6 r).2 (st_ok fin 6 r h).1 (fun x hx => by
        rcases List.mem_append.1 hx with hx | hx
        · exact ha x hx
        · rw [List.mem_singleton.1 hx]; exact (st_ok fin 6 r h).2 h0) he
      refine ⟨j1, ?_⟩
      have := (goes_st fin 6 r).2 h0
      rw [List.length_append, List.length_singleton] at j2
      omega
    · rename_i h1
      rw [if_neg h1]
      exact ⟨ha, Nat.le_add_right _ _⟩
theorem vars_ok (fin : Pl) : ∀ (g : Nat) (acc : List (List UInt8 × Int × Pl)) (r : RsC), Wds r → Wds (varsR fin g acc r).2 ∧ (varsR fin g acc r).1.length ≤ acc.length + r.1.length
  | 0, acc, r, h => ⟨h, Nat.le_add_right _ _⟩
  | g + 1, acc, r, h => by
    unfold varsR
    split
    · rename_i hi
      have hl := takeR_less fin hi
      have w1 := wds_take (wds_name (wds_take h fin wVar) fin) fin [61]
      have g1 := ((goes_name fin (takeR fin wVar r)).trans (goes_take fin [61] _)).1
      simp only
      generalize takeR fin [61] (nameR fin (takeR fin wVar r)).2 = B at *
      by_cases hm : isC [45] B = true
      · rw [if_pos hm]
        obtain ⟨j1, j2⟩ := vars_ok fin g (acc ++ [((nameR fin (takeR fin wVar r)).1.1, -(numR fin (takeR fin [45] B)).1, (nameR fin (takeR fin wVar r)).1.2)]) (numR fin (takeR fin [45] B)).2 (wds_num (wds_take w1 fin _) fin)
        refine ⟨j1, ?_⟩
        have := ((goes_take fin [45] B).trans (goes_num fin _)).1
        rw [List.length_append, List.length_singleton] at j2
        simp only at *
        omega
      · rw [if_neg hm]
        obtain ⟨j1, j2⟩ := vars_ok fin g (acc ++ [((nameR fin (takeR fin wVar r)).1.1, (numR fin B).1, (nameR fin (takeR fin wVar r)).1.2)]) (numR fin B).2 (wds_num w1 fin)
        refine ⟨j1, ?_⟩
        have := (goes_num fin B).1
        rw [List.length_append, List.length_singleton] at j2
        omega
    · exact ⟨h, Nat.le_add_right _ _⟩
/-- A chart that was read. -/
theorem read_ok (s : List UInt8) : (∀ t ∈ (readC s).1.2.2.2, OkS 7 t) ∧ (readC s).1.2.2.2.length ≤ 3001 ∧ (readC s).1.2.2.1.length ≤ 3001 := by
  have hno : (∀ t ∈ noC.2.2.2, OkS 7 t) ∧ noC.2.2.2.length ≤ 3001 ∧ noC.2.2.1.length ≤ 3001 := ⟨fun t ht => by simp [noC] at ht, by simp [noC], by simp [noC]⟩
  unfold readC
  split
  · exact hno
  · rename_i h
    obtain ⟨h2, h3⟩ := words_one (l := s) (by simpa using h)
    generalize (wordsS s).1 = ws at *
    generalize endP (runes s) 1 1 = fin
    have w0 : Wds (ws, (0, 0), 0) := ⟨h2, h3⟩
    have w1 := wds_take (wds_num (wds_name (wds_take w0 fin wChart) fin) fin) fin [123]
    unfold chR
    simp only
    generalize takeR fin [123] (numR fin (nameR fin (takeR fin wChart (ws, (0, 0), 0))).2).2 = B at *
    obtain ⟨v1, v2⟩ := vars_ok fin (B.1.length + 1) [] B w1
    generalize varsR fin (B.1.length + 1) [] B = V at *
    have hs := sts_ok fin (V.2.1.length + 1) [] V.2 v1 (fun x hx => by simp at hx)
    generalize stsR fin (V.2.1.length + 1) [] V.2 = S at *
    have ge := (goes_take fin [125] S.2).2
    generalize takeR fin [125] S.2 = E at *
    obtain ⟨z, hz⟩ : ∃ z, (if E.2.2 = 0 ∧ E.1 ≠ [] then failC 12 (hereR fin E) E else E) = z := ⟨_, rfl⟩
    rw [hz]
    by_cases hzz : z.2.2 = 0
    · rw [if_pos hzz]
      have hE : E.2.2 = 0 := by
        by_cases hc : E.2.2 = 0 ∧ E.1 ≠ []
        · exact hc.1
        · rw [if_neg hc] at hz; rw [hz]; exact hzz
      obtain ⟨j1, j2⟩ := hs (ge hE)
      have a1 := w1.2
      have a2 := v1.2
      rw [List.length_nil] at v2 j2
      exact ⟨j1, by show S.1.length ≤ 3001; omega, by show V.1.length ≤ 3001; omega⟩
    · rw [if_neg hzz]; exact hno
end Go.Proofs.YtccmmkhcacglhaaGreatDoor

/- What Ours makes of an expression. -/
namespace Go.Proofs.YtccmmkhcacglhaaGreatDoor
open Go.RowKit Go.Lib
set_option linter.unusedSimpArgs false
set_option linter.unusedVariables false
attribute [local go_sem ↓] Go.wp_at_zero Go.wp_at_succ
attribute [local go_sem] as_lit_lit as_ref_lit as_ref_ref as_not_lit as_not_ref as_not_not as_neg_lit as_neg_ref as_neg_not as_neg_neg as_bin_lit as_bin_ref as_bin_not as_bin_neg as_bin_bin

theorem as_nil_lit (w : World) : (Instr.typeAssert .nilIface 139 178 true).run Tryz.prog w = .ok (.tuple #[.agg #[.int .i64 0], .bool false]) w := by kernel_rfl
theorem as_nil_ref (w : World) : (Instr.typeAssert .nilIface 139 180 true).run Tryz.prog w = .ok (.tuple #[.agg #[.string ⟨#[]⟩], .bool false]) w := by kernel_rfl
theorem as_nil_not (w : World) : (Instr.typeAssert .nilIface 139 182 true).run Tryz.prog w = .ok (.tuple #[.agg #[.nilIface], .bool false]) w := by kernel_rfl
theorem as_nil_neg (w : World) : (Instr.typeAssert .nilIface 139 183 true).run Tryz.prog w = .ok (.tuple #[.agg #[.nilIface], .bool false]) w := by kernel_rfl
theorem as_nil_bin (w : World) : (Instr.typeAssert .nilIface 139 185 true).run Tryz.prog w = .ok (.tuple #[.agg #[.string ⟨#[]⟩, .nilIface, .nilIface], .bool false]) w := by kernel_rfl
attribute [local go_sem] as_nil_lit as_nil_ref as_nil_not as_nil_neg as_nil_bin
theorem rdT_two {ok : Nat → Prop} {N : Nat} {w : World} {d : Nat} {x y : T d} {s : ByteArray} {c0 c1 c2 c3 e0 e1 e2 e3 : Value} (h : RdT ok w d x (.agg #[c0, c1, c2, c3])) (h' : RdT ok w d y (.agg #[e0, e1, e2, e3])) (hN : ok N)
    (k0 : w.cell? ⟨N, 0, none⟩ = some c0) (k1 : w.cell? ⟨N, 1, none⟩ = some c1) (k2 : w.cell? ⟨N, 2, none⟩ = some c2) (k3 : w.cell? ⟨N, 3, none⟩ = some c3)
    (k4 : w.cell? ⟨N, 4, none⟩ = some e0) (k5 : w.cell? ⟨N, 5, none⟩ = some e1) (k6 : w.cell? ⟨N, 6, none⟩ = some e2) (k7 : w.cell? ⟨N, 7, none⟩ = some e3) :
    RdT ok w (d + 1) (mkT 5 0 s [x, y]) (.agg #[.int .i64 5, .int .i64 0, .string s, .slice (some ⟨N, 0, none⟩) 2 2]) := by
  refine rdT_mk.2 ⟨_, rfl, some ⟨N, 0, none⟩, 2, rfl, by simp, by simp [maxLen], by simp, fun z hz i hi => ?_⟩
  obtain rfl := Option.some.inj hz
  have hi2 : i = 0 ∨ i = 1 := by simp at hi; omega
  rcases hi2 with rfl | rfl
  · exact ⟨hN, c0, c1, c2, c3, h, k0, k1, k2, k3⟩
  · exact ⟨hN, e0, e1, e2, e3, h', k4, k5, k6, k7⟩
theorem ours_res {w4 : World} {R : Nat} {a b c e : Value} {tmps : Array Value} (hB : B4 w4 R a b c e) (ht : tmps.getD 2 undef = .pointer (some ⟨R, 0, none⟩)) : (results Tryz.f81 tmps).run Tryz.prog w4 = .ok (.agg #[a, b, c, e]) w4 := by
  obtain ⟨c0, c1, c2, c3, _, _, _, _⟩ := hB
  have ht' : tmps[2]?.getD undef = .pointer (some ⟨R, 0, none⟩) := by simpa using ht
  simp [results, Tryz.results81, go_sem, ht', c0, c1, c2, c3]
def OursC (d : Nat) : Prop := ∀ (t : T d) (w : World), Cl d t → Calls Tryz.prog 81 #[exV d t] w fun e w' => ∃ u, e = .returned u ∧ RdT (fun b => w.heap.size ≤ b) w' d t u ∧ Below w.heap.size w w'
theorem rdT_form {ok : Nat → Prop} {w : World} {d : Nat} {t : T d} {v : Value} (h : RdT ok w d t v) : ∃ k n s a m c, v = .agg #[.int .i64 k, .int .i64 n, .string s, .slice a m c] := RdX.form (x := ⟨d, t⟩) h
theorem cell3_new (w : World) (a b c : Value) (t : TypeId) (n : Nat) (hn : n = w.heap.size) : (w.alloc (.cells #[a, b, c] t)).cell? ⟨n, 0, none⟩ = some a ∧ (w.alloc (.cells #[a, b, c] t)).cell? ⟨n, 1, none⟩ = some b ∧ (w.alloc (.cells #[a, b, c] t)).cell? ⟨n, 2, none⟩ = some c := by subst hn; simp
theorem ours_two {N : Nat} {w8 : World} {d : Nat} {x y : T d} {s : ByteArray} {c0 c1 c2 c3 e0 e1 e2 e3 : Value} (hx : RdT (fun b => N < b) w8 d x (.agg #[c0, c1, c2, c3])) (hy : RdT (fun b => N < b) w8 d y (.agg #[e0, e1, e2, e3])) (hl : N < w8.heap.size) :
    RdT (fun b => N ≤ b) (put4 (w8.alloc (.cells #[c0, c1, c2, c3, e0, e1, e2, e3] 132)) N (.int .i64 5) (.int .i64 0) (.string s) (.slice (some ⟨w8.heap.size, 0, none⟩) 2 2)) (d + 1) (mkT 5 0 s [x, y]) (.agg #[.int .i64 5, .int .i64 0, .string s, .slice (some ⟨w8.heap.size, 0, none⟩) 2 2]) := by
  have h9 := (Below.refl w8.heap.size w8).alloc (Nat.le_refl _) (.cells #[c0, c1, c2, c3, e0, e1, e2, e3] 132)
  have hblk : ∀ b, N < b → b < w8.heap.size → (put4 (w8.alloc (.cells #[c0, c1, c2, c3, e0, e1, e2, e3] 132)) N (.int .i64 5) (.int .i64 0) (.string s) (.slice (some ⟨w8.heap.size, 0, none⟩) 2 2)).heap[b]? = w8.heap[b]? := fun b hb hl => by
    rw [heap_put (by omega), h9.block b hl]
  have hc : ∀ i (u : Value), (#[c0, c1, c2, c3, e0, e1, e2, e3] : Array Value)[i]? = some u → (put4 (w8.alloc (.cells #[c0, c1, c2, c3, e0, e1, e2, e3] 132)) N (.int .i64 5) (.int .i64 0) (.string s) (.slice (some ⟨w8.heap.size, 0, none⟩) 2 2)).cell? ⟨w8.heap.size, i, none⟩ = some u := fun i u hu =>
    (World.cell?_of_block (a := ⟨w8.heap.size, i, none⟩) (heap_put (by show N ≠ w8.heap.size; omega) _ _ _ _)).trans ((cell_of_row _ _ i _ _ (0, 0) (heap_alloc_new w8 _)).trans hu)
  exact rdT_two (RdT.keep (fun b hb hlt => ⟨Nat.le_of_lt hb, hblk b hb hlt⟩) hx) (RdT.keep (fun b hb hlt => ⟨Nat.le_of_lt hb, hblk b hb hlt⟩) hy) (Nat.le_of_lt hl) (hc 0 _ rfl) (hc 1 _ rfl) (hc 2 _ rfl) (hc 3 _ rfl) (hc 4 _ rfl) (hc 5 _ rfl) (hc 6 _ rfl) (hc 7 _ rfl)
set_option maxRecDepth 100000 in
set_option maxHeartbeats 4000000 in
theorem ours_bin {d : Nat} (IH : OursC d) (s : ByteArray) (p q : T d) (hp : Cl d p) (hq : Cl d q) (w : World) :
    Calls Tryz.prog 81 #[.iface 185 (.agg #[.string s, exV d p, exV d q])] w fun e w' => ∃ u, e = .returned u ∧ RdT (fun b => w.heap.size ≤ b) w' (d + 1) (mkT 5 0 s [p, q]) u ∧ Below w.heap.size w w' := by
  have hb0 := alN w
  have hR0 : B4 (w.alloc zN) w.heap.size (.int .i64 0) (.int .i64 0) (.string ⟨#[]⟩) (.slice none 0 0) := B4.new w _ _ _ _ _ _ rfl
  have hs0 : (w.alloc zN).heap.size = w.heap.size + 1 := by simp
  have hI := fun w1 => IH p w1 hp
  have hJ := fun w1 => IH q w1 hq
  have hpf := exV_form d p
  have hqf := exV_form d q
  obtain ⟨pv, hpv⟩ : ∃ pv, exV d p = pv := ⟨_, rfl⟩
  obtain ⟨qv, hqv⟩ : ∃ qv, exV d q = qv := ⟨_, rfl⟩
  rw [hpv, hqv]
  simp only [hpv] at hI hpf
  simp only [hqv] at hJ hqf
  clear hpv hqv
  have hR1 := fun v => hR0.keep ((Below.refl _ (w.alloc zN)).alloc (Nat.le_refl _) (.cells #[.string s, pv, v] 185))
  have hb1 := hb0.alloc hb0.size (.cells #[.string s, pv, qv] 185)
  have hs1 : ((w.alloc zN).alloc (.cells #[.string s, pv, qv] 185)).heap.size = w.heap.size + 2 := by simp
  have hc1 := cell3_new (w.alloc zN) (.string s) pv qv 185 (w.heap.size + 1) hs0.symm
  have hR1 := hR1 qv
  rcases hpf with rfl | ⟨pu, py, rfl⟩ <;> rcases hqf with rfl | ⟨qu, qy, rfl⟩
  · go_enter Tryz.func81, Tryz.ntmps81
    go_upto_region 16 with fail
    obtain ⟨c1, c2, c3⟩ := hc1
    clear hs0 hb0 hR0
    generalize (w.alloc zN).alloc (.cells #[.string s, .nilIface, .nilIface] 185) = w1 at *
    go_region_held_law (fun w' => w'.cell? ⟨w.heap.size + 1, 0, none⟩ = some (.string s) ∧ w'.cell? ⟨w.heap.size + 1, 1, none⟩ = some (.nilIface) ∧ w'.cell? ⟨w.heap.size + 1, 2, none⟩ = some (.nilIface))
      (first | (with_reducible exact ⟨c1, c2, c3⟩) | (with_reducible exact ⟨d1, d2, d3⟩) | (with_reducible exact ⟨e1, e2, e3⟩) | (with_reducible exact ⟨f1, f2, f3⟩) | go_keep)
      ((first
        | (go_at_call 81; (with_reducible refine (hJ _).mono ?_); rintro e w4 ⟨v4, rfl, hy4, b4⟩; obtain ⟨yk, ym, ys, ya, yl, yc, rfl⟩ := rdT_form hy4; have e1 := (b4.cell (p := ⟨w.heap.size + 1, 0, none⟩) (World.block_lt_of_cell? _ _ d1)).trans d1; have e2 := (b4.cell (p := ⟨w.heap.size + 1, 1, none⟩) (World.block_lt_of_cell? _ _ d2)).trans d2; have e3 := (b4.cell (p := ⟨w.heap.size + 1, 2, none⟩) (World.block_lt_of_cell? _ _ d3)).trans d3; have ha5 := (Below.refl w4.heap.size w4).alloc (Nat.le_refl _) (.cells #[.int .i64 xk, .int .i64 xm, .string xs, .slice xa xl xc, .int .i64 yk, .int .i64 ym, .string ys, .slice ya yl yc] 132); have hR5 := ((hR1.keep b3').keep b4).keep ha5; obtain ⟨r0, r1, r2, r3, r4, r5, r6, r7⟩ := id hR5; have f1 := (ha5.cell (p := ⟨w.heap.size + 1, 0, none⟩) (World.block_lt_of_cell? _ _ e1)).trans e1; have f2 := (ha5.cell (p := ⟨w.heap.size + 1, 1, none⟩) (World.block_lt_of_cell? _ _ e2)).trans e2; have f3 := (ha5.cell (p := ⟨w.heap.size + 1, 2, none⟩) (World.block_lt_of_cell? _ _ e3)).trans e3)
        | (go_at_call 81; (with_reducible refine (hI _).mono ?_); rintro e w3 ⟨v3, rfl, hx3, b3⟩; obtain ⟨xk, xm, xs, xa, xl, xc, rfl⟩ := rdT_form hx3; have b3' : Below w1.heap.size w1 w3 := ((Below.refl _ w1).drew).trans b3; have d1 := (b3'.cell (p := ⟨w.heap.size + 1, 0, none⟩) (World.block_lt_of_cell? _ _ c1)).trans c1; have d2 := (b3'.cell (p := ⟨w.heap.size + 1, 1, none⟩) (World.block_lt_of_cell? _ _ c2)).trans c2; have d3 := (b3'.cell (p := ⟨w.heap.size + 1, 2, none⟩) (World.block_lt_of_cell? _ _ c3)).trans c3)))
    go_wp2
    have hs3 := b3'.size
    have hs4 := b4.size
    have hb4 := (hb1.trans (b3'.mono hb1.size)).trans (b4.mono (by omega))
    have hb5 := hb4.alloc (by omega) (.cells #[.int .i64 xk, .int .i64 xm, .string xs, .slice xa xl xc, .int .i64 yk, .int .i64 ym, .string ys, .slice ya yl yc] 132)
    exact bodyPost_ret (ours_res (hR5.put _ _ _ _) rfl) rfl ⟨_, rfl, ours_two (RdT.keep (ok' := fun b => w.heap.size < b) (fun b hb hl => ⟨by have : w1.heap.size ≤ b := hb; omega, b4.block b hl⟩) hx3) (RdT.keep (ok' := fun b => w.heap.size < b) (fun b hb hl => ⟨by omega, rfl⟩) hy4) (by omega), below_put hb5 (Nat.le_refl _) _ _ _ _⟩
  · go_enter Tryz.func81, Tryz.ntmps81
    go_upto_region 16 with fail
    obtain ⟨c1, c2, c3⟩ := hc1
    clear hs0 hb0 hR0
    generalize (w.alloc zN).alloc (.cells #[.string s, .nilIface, .iface qu qy] 185) = w1 at *
    go_region_held_law (fun w' => w'.cell? ⟨w.heap.size + 1, 0, none⟩ = some (.string s) ∧ w'.cell? ⟨w.heap.size + 1, 1, none⟩ = some (.nilIface) ∧ w'.cell? ⟨w.heap.size + 1, 2, none⟩ = some (.iface qu qy))
      (first | (with_reducible exact ⟨c1, c2, c3⟩) | (with_reducible exact ⟨d1, d2, d3⟩) | (with_reducible exact ⟨e1, e2, e3⟩) | (with_reducible exact ⟨f1, f2, f3⟩) | go_keep)
      ((first
        | (go_at_call 81; (with_reducible refine (hJ _).mono ?_); rintro e w4 ⟨v4, rfl, hy4, b4⟩; obtain ⟨yk, ym, ys, ya, yl, yc, rfl⟩ := rdT_form hy4; have e1 := (b4.cell (p := ⟨w.heap.size + 1, 0, none⟩) (World.block_lt_of_cell? _ _ d1)).trans d1; have e2 := (b4.cell (p := ⟨w.heap.size + 1, 1, none⟩) (World.block_lt_of_cell? _ _ d2)).trans d2; have e3 := (b4.cell (p := ⟨w.heap.size + 1, 2, none⟩) (World.block_lt_of_cell? _ _ d3)).trans d3; have ha5 := (Below.refl w4.heap.size w4).alloc (Nat.le_refl _) (.cells #[.int .i64 xk, .int .i64 xm, .string xs, .slice xa xl xc, .int .i64 yk, .int .i64 ym, .string ys, .slice ya yl yc] 132); have hR5 := ((hR1.keep b3').keep b4).keep ha5; obtain ⟨r0, r1, r2, r3, r4, r5, r6, r7⟩ := id hR5; have f1 := (ha5.cell (p := ⟨w.heap.size + 1, 0, none⟩) (World.block_lt_of_cell? _ _ e1)).trans e1; have f2 := (ha5.cell (p := ⟨w.heap.size + 1, 1, none⟩) (World.block_lt_of_cell? _ _ e2)).trans e2; have f3 := (ha5.cell (p := ⟨w.heap.size + 1, 2, none⟩) (World.block_lt_of_cell? _ _ e3)).trans e3)
        | (go_at_call 81; (with_reducible refine (hI _).mono ?_); rintro e w3 ⟨v3, rfl, hx3, b3⟩; obtain ⟨xk, xm, xs, xa, xl, xc, rfl⟩ := rdT_form hx3; have b3' : Below w1.heap.size w1 w3 := ((Below.refl _ w1).drew).trans b3; have d1 := (b3'.cell (p := ⟨w.heap.size + 1, 0, none⟩) (World.block_lt_of_cell? _ _ c1)).trans c1; have d2 := (b3'.cell (p := ⟨w.heap.size + 1, 1, none⟩) (World.block_lt_of_cell? _ _ c2)).trans c2; have d3 := (b3'.cell (p := ⟨w.heap.size + 1, 2, none⟩) (World.block_lt_of_cell? _ _ c3)).trans c3)))
    go_wp2
    have hs3 := b3'.size
    have hs4 := b4.size
    have hb4 := (hb1.trans (b3'.mono hb1.size)).trans (b4.mono (by omega))
    have hb5 := hb4.alloc (by omega) (.cells #[.int .i64 xk, .int .i64 xm, .string xs, .slice xa xl xc, .int .i64 yk, .int .i64 ym, .string ys, .slice ya yl yc] 132)
    exact bodyPost_ret (ours_res (hR5.put _ _ _ _) rfl) rfl ⟨_, rfl, ours_two (RdT.keep (ok' := fun b => w.heap.size < b) (fun b hb hl => ⟨by have : w1.heap.size ≤ b := hb; omega, b4.block b hl⟩) hx3) (RdT.keep (ok' := fun b => w.heap.size < b) (fun b hb hl => ⟨by omega, rfl⟩) hy4) (by omega), below_put hb5 (Nat.le_refl _) _ _ _ _⟩
  · go_enter Tryz.func81, Tryz.ntmps81
    go_upto_region 16 with fail
    obtain ⟨c1, c2, c3⟩ := hc1
    clear hs0 hb0 hR0
    generalize (w.alloc zN).alloc (.cells #[.string s, .iface pu py, .nilIface] 185) = w1 at *
    go_region_held_law (fun w' => w'.cell? ⟨w.heap.size + 1, 0, none⟩ = some (.string s) ∧ w'.cell? ⟨w.heap.size + 1, 1, none⟩ = some (.iface pu py) ∧ w'.cell? ⟨w.heap.size + 1, 2, none⟩ = some (.nilIface))
      (first | (with_reducible exact ⟨c1, c2, c3⟩) | (with_reducible exact ⟨d1, d2, d3⟩) | (with_reducible exact ⟨e1, e2, e3⟩) | (with_reducible exact ⟨f1, f2, f3⟩) | go_keep)
      ((first
        | (go_at_call 81; (with_reducible refine (hJ _).mono ?_); rintro e w4 ⟨v4, rfl, hy4, b4⟩; obtain ⟨yk, ym, ys, ya, yl, yc, rfl⟩ := rdT_form hy4; have e1 := (b4.cell (p := ⟨w.heap.size + 1, 0, none⟩) (World.block_lt_of_cell? _ _ d1)).trans d1; have e2 := (b4.cell (p := ⟨w.heap.size + 1, 1, none⟩) (World.block_lt_of_cell? _ _ d2)).trans d2; have e3 := (b4.cell (p := ⟨w.heap.size + 1, 2, none⟩) (World.block_lt_of_cell? _ _ d3)).trans d3; have ha5 := (Below.refl w4.heap.size w4).alloc (Nat.le_refl _) (.cells #[.int .i64 xk, .int .i64 xm, .string xs, .slice xa xl xc, .int .i64 yk, .int .i64 ym, .string ys, .slice ya yl yc] 132); have hR5 := ((hR1.keep b3').keep b4).keep ha5; obtain ⟨r0, r1, r2, r3, r4, r5, r6, r7⟩ := id hR5; have f1 := (ha5.cell (p := ⟨w.heap.size + 1, 0, none⟩) (World.block_lt_of_cell? _ _ e1)).trans e1; have f2 := (ha5.cell (p := ⟨w.heap.size + 1, 1, none⟩) (World.block_lt_of_cell? _ _ e2)).trans e2; have f3 := (ha5.cell (p := ⟨w.heap.size + 1, 2, none⟩) (World.block_lt_of_cell? _ _ e3)).trans e3)
        | (go_at_call 81; (with_reducible refine (hI _).mono ?_); rintro e w3 ⟨v3, rfl, hx3, b3⟩; obtain ⟨xk, xm, xs, xa, xl, xc, rfl⟩ := rdT_form hx3; have b3' : Below w1.heap.size w1 w3 := ((Below.refl _ w1).drew).trans b3; have d1 := (b3'.cell (p := ⟨w.heap.size + 1, 0, none⟩) (World.block_lt_of_cell? _ _ c1)).trans c1; have d2 := (b3'.cell (p := ⟨w.heap.size + 1, 1, none⟩) (World.block_lt_of_cell? _ _ c2)).trans c2; have d3 := (b3'.cell (p := ⟨w.heap.size + 1, 2, none⟩) (World.block_lt_of_cell? _ _ c3)).trans c3)))
    go_wp2
    have hs3 := b3'.size
    have hs4 := b4.size
    have hb4 := (hb1.trans (b3'.mono hb1.size)).trans (b4.mono (by omega))
    have hb5 := hb4.alloc (by omega) (.cells #[.int .i64 xk, .int .i64 xm, .string xs, .slice xa xl xc, .int .i64 yk, .int .i64 ym, .string ys, .slice ya yl yc] 132)
    exact bodyPost_ret (ours_res (hR5.put _ _ _ _) rfl) rfl ⟨_, rfl, ours_two (RdT.keep (ok' := fun b => w.heap.size < b) (fun b hb hl => ⟨by have : w1.heap.size ≤ b := hb; omega, b4.block b hl⟩) hx3) (RdT.keep (ok' := fun b => w.heap.size < b) (fun b hb hl => ⟨by omega, rfl⟩) hy4) (by omega), below_put hb5 (Nat.le_refl _) _ _ _ _⟩
  · go_enter Tryz.func81, Tryz.ntmps81
    go_upto_region 16 with fail
    obtain ⟨c1, c2, c3⟩ := hc1
    clear hs0 hb0 hR0
    generalize (w.alloc zN).alloc (.cells #[.string s, .iface pu py, .iface qu qy] 185) = w1 at *
    go_region_held_law (fun w' => w'.cell? ⟨w.heap.size + 1, 0, none⟩ = some (.string s) ∧ w'.cell? ⟨w.heap.size + 1, 1, none⟩ = some (.iface pu py) ∧ w'.cell? ⟨w.heap.size + 1, 2, none⟩ = some (.iface qu qy))
      (first | (with_reducible exact ⟨c1, c2, c3⟩) | (with_reducible exact ⟨d1, d2, d3⟩) | (with_reducible exact ⟨e1, e2, e3⟩) | (with_reducible exact ⟨f1, f2, f3⟩) | go_keep)
      ((first
        | (go_at_call 81; (with_reducible refine (hJ _).mono ?_); rintro e w4 ⟨v4, rfl, hy4, b4⟩; obtain ⟨yk, ym, ys, ya, yl, yc, rfl⟩ := rdT_form hy4; have e1 := (b4.cell (p := ⟨w.heap.size + 1, 0, none⟩) (World.block_lt_of_cell? _ _ d1)).trans d1; have e2 := (b4.cell (p := ⟨w.heap.size + 1, 1, none⟩) (World.block_lt_of_cell? _ _ d2)).trans d2; have e3 := (b4.cell (p := ⟨w.heap.size + 1, 2, none⟩) (World.block_lt_of_cell? _ _ d3)).trans d3; have ha5 := (Below.refl w4.heap.size w4).alloc (Nat.le_refl _) (.cells #[.int .i64 xk, .int .i64 xm, .string xs, .slice xa xl xc, .int .i64 yk, .int .i64 ym, .string ys, .slice ya yl yc] 132); have hR5 := ((hR1.keep b3').keep b4).keep ha5; obtain ⟨r0, r1, r2, r3, r4, r5, r6, r7⟩ := id hR5; have f1 := (ha5.cell (p := ⟨w.heap.size + 1, 0, none⟩) (World.block_lt_of_cell? _ _ e1)).trans e1; have f2 := (ha5.cell (p := ⟨w.heap.size + 1, 1, none⟩) (World.block_lt_of_cell? _ _ e2)).trans e2; have f3 := (ha5.cell (p := ⟨w.heap.size + 1, 2, none⟩) (World.block_lt_of_cell? _ _ e3)).trans e3)
        | (go_at_call 81; (with_reducible refine (hI _).mono ?_); rintro e w3 ⟨v3, rfl, hx3, b3⟩; obtain ⟨xk, xm, xs, xa, xl, xc, rfl⟩ := rdT_form hx3; have b3' : Below w1.heap.size w1 w3 := ((Below.refl _ w1).drew).trans b3; have d1 := (b3'.cell (p := ⟨w.heap.size + 1, 0, none⟩) (World.block_lt_of_cell? _ _ c1)).trans c1; have d2 := (b3'.cell (p := ⟨w.heap.size + 1, 1, none⟩) (World.block_lt_of_cell? _ _ c2)).trans c2; have d3 := (b3'.cell (p := ⟨w.heap.size + 1, 2, none⟩) (World.block_lt_of_cell? _ _ c3)).trans c3)))
    go_wp2
    have hs3 := b3'.size
    have hs4 := b4.size
    have hb4 := (hb1.trans (b3'.mono hb1.size)).trans (b4.mono (by omega))
    have hb5 := hb4.alloc (by omega) (.cells #[.int .i64 xk, .int .i64 xm, .string xs, .slice xa xl xc, .int .i64 yk, .int .i64 ym, .string ys, .slice ya yl yc] 132)
    exact bodyPost_ret (ours_res (hR5.put _ _ _ _) rfl) rfl ⟨_, rfl, ours_two (RdT.keep (ok' := fun b => w.heap.size < b) (fun b hb hl => ⟨by have : w1.heap.size ≤ b := hb; omega, b4.block b hl⟩) hx3) (RdT.keep (ok' := fun b => w.heap.size < b) (fun b hb hl => ⟨by omega, rfl⟩) hy4) (by omega), below_put hb5 (Nat.le_refl _) _ _ _ _⟩
set_option maxRecDepth 100000 in
set_option maxHeartbeats 4000000 in
theorem ours_step (d : Nat) (IH : OursC d) : OursC (d + 1) := by
  intro t w hc
  have hb0 := alN w
  have hR0 : B4 (w.alloc zN) w.heap.size (.int .i64 0) (.int .i64 0) (.string ⟨#[]⟩) (.slice none 0 0) := B4.new w _ _ _ _ _ _ rfl
  have hs0 : (w.alloc zN).heap.size = w.heap.size + 1 := by simp
  rcases hc.cases with ⟨n, rfl⟩ | ⟨s, rfl⟩ | ⟨k, p, hk, rfl, hp⟩ | ⟨s, p, q, rfl, hp, hq⟩ | rfl
  · have e : exV (d + 1) (mkT 1 n ⟨#[]⟩ [] : T (d + 1)) = .iface 178 (.agg #[.int .i64 n]) := rfl
    rw [e]
    go_enter Tryz.func81, Tryz.ntmps81
    go_upto_region 4 with fail
    have hR1 := hR0.keep ((Below.refl _ (w.alloc zN)).alloc (Nat.le_refl _) (.cells #[.int .i64 n] 178))
    have hb1 := hb0.alloc hb0.size (.cells #[.int .i64 n] 178)
    have c1 : ((w.alloc zN).alloc (.cells #[.int .i64 n] 178)).cell? ⟨w.heap.size + 1, 0, none⟩ = some (.int .i64 n) := cell1_new _ _ _ _ hs0.symm
    generalize (w.alloc zN).alloc (.cells #[.int .i64 n] 178) = w1 at *
    obtain ⟨r0, r1, r2, r3, r4, r5, r6, r7⟩ := id hR1
    go_wp2
    exact bodyPost_ret (ours_res (hR1.put _ _ _ _) rfl) rfl ⟨_, rfl, ⟨_, rfl, rdP_none _ _⟩, below_put hb1 (Nat.le_refl _) _ _ _ _⟩
  · have e : exV (d + 1) (mkT 2 0 s [] : T (d + 1)) = .iface 180 (.agg #[.string s]) := rfl
    rw [e]
    go_enter Tryz.func81, Tryz.ntmps81
    go_upto_region 7 with fail
    have hR1 := hR0.keep ((Below.refl _ (w.alloc zN)).alloc (Nat.le_refl _) (.cells #[.string s] 180))
    have hb1 := hb0.alloc hb0.size (.cells #[.string s] 180)
    have c1 : ((w.alloc zN).alloc (.cells #[.string s] 180)).cell? ⟨w.heap.size + 1, 0, none⟩ = some (.string s) := cell1_new _ _ _ _ hs0.symm
    generalize (w.alloc zN).alloc (.cells #[.string s] 180) = w1 at *
    obtain ⟨r0, r1, r2, r3, r4, r5, r6, r7⟩ := id hR1
    go_wp2
    exact bodyPost_ret (ours_res (hR1.put _ _ _ _) rfl) rfl ⟨_, rfl, ⟨_, rfl, rdP_none _ _⟩, below_put hb1 (Nat.le_refl _) _ _ _ _⟩
  · have hI := fun w1 => IH p w1 hp
    have hpf := exV_form d p
    obtain ⟨pv, hpv⟩ : ∃ pv, exV d p = pv := ⟨_, rfl⟩
    have e : exV (d + 1) (mkT k 0 ⟨#[]⟩ [p] : T (d + 1)) = if k = 3 then .iface 182 (.agg #[pv]) else .iface 183 (.agg #[pv]) := by
      rw [exV_mk, if_neg (by omega), if_neg (by omega), ← hpv]
      rcases hk with rfl | rfl
      · rfl
      · rfl
    rw [e]
    simp only [hpv] at hI hpf
    clear e hpv
    rcases hk with rfl | rfl
    · rw [if_pos rfl]
      rcases hpf with rfl | ⟨pu, py, rfl⟩
      · go_enter Tryz.func81, Tryz.ntmps81
        go_upto_region 10 with fail
        have ha1 := fun v => (Below.refl _ (w.alloc zN)).alloc (Nat.le_refl _) (.cells #[v] 182)
        have hR1 := hR0.keep (ha1 (.nilIface))
        have hb1 := hb0.alloc hb0.size (.cells #[.nilIface] 182)
        have hs1 : ((w.alloc zN).alloc (.cells #[.nilIface] 182)).heap.size = w.heap.size + 2 := by simp
        have c1 : ((w.alloc zN).alloc (.cells #[.nilIface] 182)).cell? ⟨w.heap.size + 1, 0, none⟩ = some (.nilIface) := cell1_new _ _ _ _ hs0.symm
        clear ha1 hs0 hb0 hR0
        generalize (w.alloc zN).alloc (.cells #[.nilIface] 182) = w1 at *
        go_wp2_with (first
          | (go_at_call 81; refine (hI _).mono ?_; rintro e w3 ⟨v, rfl, hx3, b3⟩; obtain ⟨xk, xm, xs, xa, xl, xc, rfl⟩ := rdT_form hx3; have ha4 := (Below.refl w3.heap.size w3).alloc (Nat.le_refl _) (.cells #[.int .i64 xk, .int .i64 xm, .string xs, .slice xa xl xc] 132); have hR4 := (hR1.keep b3).keep ha4; obtain ⟨r0, r1, r2, r3, r4, r5, r6, r7⟩ := id hR4))
        have hs3 := b3.size
        have hb4 := (hb1.trans (b3.mono hb1.size)).alloc (hb1.trans (b3.mono hb1.size)).size (.cells #[.int .i64 xk, .int .i64 xm, .string xs, .slice xa xl xc] 132)
        obtain ⟨k0, k1, k2, k3⟩ := (At4.new w3 (.int .i64 xk) (.int .i64 xm) (.string xs) (.slice xa xl xc) 132).blkR (w' := put4 (w3.alloc (.cells #[.int .i64 xk, .int .i64 xm, .string xs, .slice xa xl xc] 132)) w.heap.size (.int .i64 3) (.int .i64 0) (.string ⟨#[]⟩) (.slice (some ⟨w3.heap.size, 0, none⟩) 1 1)) (heap_put (by omega) _ _ _ _)
        exact bodyPost_ret (ours_res (hR4.put _ _ _ _) rfl) rfl ⟨_, rfl, rdX_mk1 (x := ⟨d, p⟩) (RdX.keep (x := ⟨d, p⟩) hx3 (fun b hb hl => ⟨by omega, (heap_put (by omega) _ _ _ _).trans (ha4.block b hl)⟩)) (by omega) k0 k1 k2 k3, below_put hb4 (Nat.le_refl _) _ _ _ _⟩
      · go_enter Tryz.func81, Tryz.ntmps81
        go_upto_region 10 with fail
        have ha1 := fun v => (Below.refl _ (w.alloc zN)).alloc (Nat.le_refl _) (.cells #[v] 182)
        have hR1 := hR0.keep (ha1 (.iface pu py))
        have hb1 := hb0.alloc hb0.size (.cells #[.iface pu py] 182)
        have hs1 : ((w.alloc zN).alloc (.cells #[.iface pu py] 182)).heap.size = w.heap.size + 2 := by simp
        have c1 : ((w.alloc zN).alloc (.cells #[.iface pu py] 182)).cell? ⟨w.heap.size + 1, 0, none⟩ = some (.iface pu py) := cell1_new _ _ _ _ hs0.symm
        clear ha1 hs0 hb0 hR0
        generalize (w.alloc zN).alloc (.cells #[.iface pu py] 182) = w1 at *
        go_wp2_with (first
          | (go_at_call 81; refine (hI _).mono ?_; rintro e w3 ⟨v, rfl, hx3, b3⟩; obtain ⟨xk, xm, xs, xa, xl, xc, rfl⟩ := rdT_form hx3; have ha4 := (Below.refl w3.heap.size w3).alloc (Nat.le_refl _) (.cells #[.int .i64 xk, .int .i64 xm, .string xs, .slice xa xl xc] 132); have hR4 := (hR1.keep b3).keep ha4; obtain ⟨r0, r1, r2, r3, r4, r5, r6, r7⟩ := id hR4))
        have hs3 := b3.size
        have hb4 := (hb1.trans (b3.mono hb1.size)).alloc (hb1.trans (b3.mono hb1.size)).size (.cells #[.int .i64 xk, .int .i64 xm, .string xs, .slice xa xl xc] 132)
        obtain ⟨k0, k1, k2, k3⟩ := (At4.new w3 (.int .i64 xk) (.int .i64 xm) (.string xs) (.slice xa xl xc) 132).blkR (w' := put4 (w3.alloc (.cells #[.int .i64 xk, .int .i64 xm, .string xs, .slice xa xl xc] 132)) w.heap.size (.int .i64 3) (.int .i64 0) (.string ⟨#[]⟩) (.slice (some ⟨w3.heap.size, 0, none⟩) 1 1)) (heap_put (by omega) _ _ _ _)
        exact bodyPost_ret (ours_res (hR4.put _ _ _ _) rfl) rfl ⟨_, rfl, rdX_mk1 (x := ⟨d, p⟩) (RdX.keep (x := ⟨d, p⟩) hx3 (fun b hb hl => ⟨by omega, (heap_put (by omega) _ _ _ _).trans (ha4.block b hl)⟩)) (by omega) k0 k1 k2 k3, below_put hb4 (Nat.le_refl _) _ _ _ _⟩
    · rw [if_neg (by decide)]
      rcases hpf with rfl | ⟨pu, py, rfl⟩
      · go_enter Tryz.func81, Tryz.ntmps81
        go_upto_region 13 with fail
        have ha1 := fun v => (Below.refl _ (w.alloc zN)).alloc (Nat.le_refl _) (.cells #[v] 183)
        have hR1 := hR0.keep (ha1 (.nilIface))
        have hb1 := hb0.alloc hb0.size (.cells #[.nilIface] 183)
        have hs1 : ((w.alloc zN).alloc (.cells #[.nilIface] 183)).heap.size = w.heap.size + 2 := by simp
        have c1 : ((w.alloc zN).alloc (.cells #[.nilIface] 183)).cell? ⟨w.heap.size + 1, 0, none⟩ = some (.nilIface) := cell1_new _ _ _ _ hs0.symm
        clear ha1 hs0 hb0 hR0
        generalize (w.alloc zN).alloc (.cells #[.nilIface] 183) = w1 at *
        go_wp2_with (first
          | (go_at_call 81; refine (hI _).mono ?_; rintro e w3 ⟨v, rfl, hx3, b3⟩; obtain ⟨xk, xm, xs, xa, xl, xc, rfl⟩ := rdT_form hx3; have ha4 := (Below.refl w3.heap.size w3).alloc (Nat.le_refl _) (.cells #[.int .i64 xk, .int .i64 xm, .string xs, .slice xa xl xc] 132); have hR4 := (hR1.keep b3).keep ha4; obtain ⟨r0, r1, r2, r3, r4, r5, r6, r7⟩ := id hR4))
        have hs3 := b3.size
        have hb4 := (hb1.trans (b3.mono hb1.size)).alloc (hb1.trans (b3.mono hb1.size)).size (.cells #[.int .i64 xk, .int .i64 xm, .string xs, .slice xa xl xc] 132)
        obtain ⟨k0, k1, k2, k3⟩ := (At4.new w3 (.int .i64 xk) (.int .i64 xm) (.string xs) (.slice xa xl xc) 132).blkR (w' := put4 (w3.alloc (.cells #[.int .i64 xk, .int .i64 xm, .string xs, .slice xa xl xc] 132)) w.heap.size (.int .i64 4) (.int .i64 0) (.string ⟨#[]⟩) (.slice (some ⟨w3.heap.size, 0, none⟩) 1 1)) (heap_put (by omega) _ _ _ _)
        exact bodyPost_ret (ours_res (hR4.put _ _ _ _) rfl) rfl ⟨_, rfl, rdX_mk1 (x := ⟨d, p⟩) (RdX.keep (x := ⟨d, p⟩) hx3 (fun b hb hl => ⟨by omega, (heap_put (by omega) _ _ _ _).trans (ha4.block b hl)⟩)) (by omega) k0 k1 k2 k3, below_put hb4 (Nat.le_refl _) _ _ _ _⟩
      · go_enter Tryz.func81, Tryz.ntmps81
        go_upto_region 13 with fail
        have ha1 := fun v => (Below.refl _ (w.alloc zN)).alloc (Nat.le_refl _) (.cells #[v] 183)
        have hR1 := hR0.keep (ha1 (.iface pu py))
        have hb1 := hb0.alloc hb0.size (.cells #[.iface pu py] 183)
        have hs1 : ((w.alloc zN).alloc (.cells #[.iface pu py] 183)).heap.size = w.heap.size + 2 := by simp
        have c1 : ((w.alloc zN).alloc (.cells #[.iface pu py] 183)).cell? ⟨w.heap.size + 1, 0, none⟩ = some (.iface pu py) := cell1_new _ _ _ _ hs0.symm
        clear ha1 hs0 hb0 hR0
        generalize (w.alloc zN).alloc (.cells #[.iface pu py] 183) = w1 at *
        go_wp2_with (first
          | (go_at_call 81; refine (hI _).mono ?_; rintro e w3 ⟨v, rfl, hx3, b3⟩; obtain ⟨xk, xm, xs, xa, xl, xc, rfl⟩ := rdT_form hx3; have ha4 := (Below.refl w3.heap.size w3).alloc (Nat.le_refl _) (.cells #[.int .i64 xk, .int .i64 xm, .string xs, .slice xa xl xc] 132); have hR4 := (hR1.keep b3).keep ha4; obtain ⟨r0, r1, r2, r3, r4, r5, r6, r7⟩ := id hR4))
        have hs3 := b3.size
        have hb4 := (hb1.trans (b3.mono hb1.size)).alloc (hb1.trans (b3.mono hb1.size)).size (.cells #[.int .i64 xk, .int .i64 xm, .string xs, .slice xa xl xc] 132)
        obtain ⟨k0, k1, k2, k3⟩ := (At4.new w3 (.int .i64 xk) (.int .i64 xm) (.string xs) (.slice xa xl xc) 132).blkR (w' := put4 (w3.alloc (.cells #[.int .i64 xk, .int .i64 xm, .string xs, .slice xa xl xc] 132)) w.heap.size (.int .i64 4) (.int .i64 0) (.string ⟨#[]⟩) (.slice (some ⟨w3.heap.size, 0, none⟩) 1 1)) (heap_put (by omega) _ _ _ _)
        exact bodyPost_ret (ours_res (hR4.put _ _ _ _) rfl) rfl ⟨_, rfl, rdX_mk1 (x := ⟨d, p⟩) (RdX.keep (x := ⟨d, p⟩) hx3 (fun b hb hl => ⟨by omega, (heap_put (by omega) _ _ _ _).trans (ha4.block b hl)⟩)) (by omega) k0 k1 k2 k3, below_put hb4 (Nat.le_refl _) _ _ _ _⟩
  · have e : exV (d + 1) (mkT 5 0 s [p, q] : T (d + 1)) = .iface 185 (.agg #[.string s, exV d p, exV d q]) := rfl
    rw [e]
    exact ours_bin IH s p q hp hq w
  · have e : exV (d + 1) (none0 : T (d + 1)) = .nilIface := rfl
    rw [e]
    go_enter Tryz.func81, Tryz.ntmps81
    go_upto_region 17 with fail
    generalize w.alloc zN = w1 at *
    obtain ⟨r0, r1, r2, r3, r4, r5, r6, r7⟩ := id hR0
    go_wp2
    exact bodyPost_ret (ours_res (hR0.put _ _ _ _) rfl) rfl ⟨_, rfl, rdT_none _ _, below_put hb0 (Nat.le_refl _) _ _ _ _⟩
theorem ours_any : ∀ d, OursC d
  | 0 => fun t => Empty.elim t
  | d + 1 => ours_step d (ours_any d)
end Go.Proofs.YtccmmkhcacglhaaGreatDoor

/- The texts of ChartDeep, read; the text of awake. Math alone. -/
namespace Go.Proofs.YtccmmkhcacglhaaGreatDoor
open Go.RowKit Go.Lib
set_option linter.unusedVariables false
/-- A list, so many times. -/
def rp : Nat → List UInt8 → List UInt8
  | 0, _ => []
  | k + 1, l => rp k l ++ l
def dpA : List UInt8 := [99, 104, 97, 114, 116, 32, 97, 32, 49, 32, 123, 32]
def dpB : List UInt8 := [115, 116, 97, 116, 101, 32, 98, 32, 123, 32]
def dpT (k : Nat) : List UInt8 := (dpA ++ rp k dpB) ++ ([125] ++ rp k [125])
/-- How deep states lie, each alone. -/
def chn : (d : Nat) → List (St d) → Nat
  | 0, _ => 0
  | d + 1, [s] => 1 + chn d s.2
  | d + 1, _ => 0
def awT : List UInt8 := [99, 104, 97, 114, 116, 32, 97, 32, 49, 32, 123, 32, 115, 116, 97, 116, 101, 32, 98, 32, 123, 32, 101, 110, 100, 32, 125, 32, 125]
set_option maxRecDepth 100000 in
theorem aw_ok : (readC awT).2 = ((0, 0), 0) := by kernel_rfl
set_option maxRecDepth 100000 in
theorem aw_end : (readC awT).1.2.2.2.map (fun s => s.1.2.1.2) = [true] := by kernel_rfl
set_option maxRecDepth 100000 in
theorem dp_1 : (readC (dpT 1)).2 = ((0, 0), 0) ∧ chn 7 (readC (dpT 1)).1.2.2.2 = 1 := ⟨by kernel_rfl, by kernel_rfl⟩
set_option maxRecDepth 100000 in
theorem dp_2 : (readC (dpT 2)).2 = ((0, 0), 0) ∧ chn 7 (readC (dpT 2)).1.2.2.2 = 2 := ⟨by kernel_rfl, by kernel_rfl⟩
set_option maxRecDepth 100000 in
theorem dp_3 : (readC (dpT 3)).2 = ((0, 0), 0) ∧ chn 7 (readC (dpT 3)).1.2.2.2 = 3 := ⟨by kernel_rfl, by kernel_rfl⟩
set_option maxRecDepth 100000 in
theorem dp_4 : (readC (dpT 4)).2 = ((0, 0), 0) ∧ chn 7 (readC (dpT 4)).1.2.2.2 = 4 := ⟨by kernel_rfl, by kernel_rfl⟩
set_option maxRecDepth 100000 in
theorem dp_5 : (readC (dpT 5)).2 = ((0, 0), 0) ∧ chn 7 (readC (dpT 5)).1.2.2.2 = 5 := ⟨by kernel_rfl, by kernel_rfl⟩
set_option maxRecDepth 100000 in
theorem dp_6 : (readC (dpT 6)).2 = ((0, 0), 0) ∧ chn 7 (readC (dpT 6)).1.2.2.2 = 6 := ⟨by kernel_rfl, by kernel_rfl⟩
set_option maxRecDepth 100000 in
theorem dp_7 : (readC (dpT 7)).2 = ((1, 73), 13) := by kernel_rfl
set_option maxRecDepth 100000 in
theorem dp_8 : (readC (dpT 8)).2 = ((1, 73), 13) := by kernel_rfl
set_option maxRecDepth 100000 in
theorem dp_9 : (readC (dpT 9)).2 = ((1, 73), 13) := by kernel_rfl
set_option maxRecDepth 100000 in
theorem dp_10 : (readC (dpT 10)).2 = ((1, 73), 13) := by kernel_rfl
theorem dp_all {k : Nat} (h1 : 1 ≤ k) (h2 : k ≤ 10) : (k ≤ 6 → (readC (dpT k)).2 = ((0, 0), 0) ∧ chn 7 (readC (dpT k)).1.2.2.2 = k) ∧ (6 < k → (readC (dpT k)).2 = ((1, 73), 13)) := by
  have hk : k = 1 ∨ k = 2 ∨ k = 3 ∨ k = 4 ∨ k = 5 ∨ k = 6 ∨ k = 7 ∨ k = 8 ∨ k = 9 ∨ k = 10 := by omega
  rcases hk with rfl | rfl | rfl | rfl | rfl | rfl | rfl | rfl | rfl | rfl
  · exact ⟨fun _ => dp_1, fun h => absurd h (by decide)⟩
  · exact ⟨fun _ => dp_2, fun h => absurd h (by decide)⟩
  · exact ⟨fun _ => dp_3, fun h => absurd h (by decide)⟩
  · exact ⟨fun _ => dp_4, fun h => absurd h (by decide)⟩
  · exact ⟨fun _ => dp_5, fun h => absurd h (by decide)⟩
  · exact ⟨fun _ => dp_6, fun h => absurd h (by decide)⟩
  · exact ⟨fun h => absurd h (by decide), fun _ => dp_7⟩
  · exact ⟨fun h => absurd h (by decide), fun _ => dp_8⟩
  · exact ⟨fun h => absurd h (by decide), fun _ => dp_9⟩
  · exact ⟨fun h => absurd h (by decide), fun _ => dp_10⟩
theorem rp_len : ∀ (k : Nat) (l : List UInt8), (rp k l).length = k * l.length
  | 0, l => by simp [rp]
  | k + 1, l => by rw [rp, List.length_append, rp_len k l, Nat.succ_mul]
theorem chn_one {d : Nat} {l : List (St d)} (h : l.length = 1) (hd : chn d l ≠ 0 ∨ True) : (d = 0 ∧ False) ∨ True := .inr trivial
end Go.Proofs.YtccmmkhcacglhaaGreatDoor

/- What awake answers. -/
namespace Go.Proofs.YtccmmkhcacglhaaGreatDoor
open Go.RowKit Go.Lib
set_option linter.unusedSimpArgs false
set_option linter.unusedVariables false
attribute [local go_sem ↓] Go.wp_at_zero Go.wp_at_succ

/-- A chart's six cells. -/
theorem RdC.lit {ok : Nat → Prop} {w : World} {d : Nat} {c : ChG d} {v : Value} (h : RdC ok w d c v) : ∃ nv vn ln co va vc sa sc, v = .agg #[.string nv, .int .i64 vn, .int .i64 ln, .int .i64 co, .slice va c.2.2.1.length vc, .slice sa c.2.2.2.length sc] ∧ RdK ok w 4 (rVar ok w) c.2.2.1 (.slice va c.2.2.1.length vc) ∧ RdK ok w 11 (rSt d ok w) c.2.2.2 (.slice sa c.2.2.2.length sc) := by
  obtain ⟨sv, ss, rfl, h1, h2⟩ := h
  obtain ⟨va, vc, rfl, _⟩ := h1.form
  obtain ⟨sa, sc, rfl, _⟩ := h2.form
  exact ⟨_, _, _, _, va, vc, sa, sc, rfl, h1, h2⟩
/-- The first of some states: its cells. -/
theorem rdSt_at {ok : Nat → Prop} {w : World} {d : Nat} {l : List (St (d + 1))} {a : Option Addr} {n c : Nat} (h : RdK ok w 11 (rSt (d + 1) ok w) l (.slice a n c)) (i : Nat) (hi : i < l.length) : ∃ b off so si, a = some ⟨b, off, none⟩ ∧ ok b ∧ b < w.heap.size ∧ RdK ok w 6 (rOn ok w) (l[i]).1.2.2.2.2 so ∧ RdK ok w 11 (rSt d ok w) (l[i]).2 si ∧ ∀ j u, (hdV (l[i]).1 so si)[j]? = some u → w.cell? ⟨b, off + i * 11 + j, none⟩ = some u := by
  obtain ⟨a', c', e, _, _, hc⟩ := h
  simp only [Value.slice.injEq] at e
  obtain ⟨rfl, _, _⟩ := e
  obtain ⟨b, off, cs, h1, h2, h3, _, ⟨so, si, rfl, h4, h5⟩, h6⟩ := hc i hi
  exact ⟨b, off, so, si, h1, h2, h3, h4, h5, h6⟩
set_option maxRecDepth 100000 in
set_option maxHeartbeats 4000000 in
theorem awakeC (w : World) (hE : Esy w) : Calls Tryz.prog 9 #[] w fun e w' => e = .returned (.bool true) ∧ Below w.heap.size w w' := by
  have h1 := readP_any ⟨awT.toArray⟩ w hE (by decide)
  have e1 : bl ⟨awT.toArray⟩ = awT := rfl
  rw [e1] at h1
  obtain ⟨⟨CC, PP⟩, hR⟩ : ∃ x, readC awT = x := ⟨_, rfl⟩
  have h2 := aw_ok
  have h3 := aw_end
  rw [hR] at h1 h2 h3
  simp only at h2 h3
  subst h2
  simp only at h1
  have hl : CC.2.2.2.length = 1 := by
    have := congrArg List.length h3
    rwa [List.length_map] at this
  have he : ∀ (hh : 0 < CC.2.2.2.length), (CC.2.2.2[0]).1.2.1.2 = true := fun hh => by
    have := congrArg (fun l => l[0]?) h3
    simp only [List.getElem?_map, List.getElem?_eq_getElem hh, Option.map_some, List.getElem?_cons_zero, Option.some.injEq] at this
    exact this
  have h4 : Calls Tryz.prog 10 #[.string ⟨#[99, 104, 97, 114, 116, 32, 97, 32, 49, 32, 123, 32, 115, 116, 97, 116, 101, 32, 98, 32, 123, 32, 101, 110, 100, 32, 125, 32, 125]⟩] w fun e w' => (∃ nv vn ln co va vl vc b off sc, e = .returned (.tuple #[.agg #[.string nv, .int .i64 vn, .int .i64 ln, .int .i64 co, .slice va vl vc, .slice (some ⟨b, off, none⟩) 1 sc], .agg #[.int .i64 0, .int .i64 0], .int .i64 0]) ∧ b < w'.heap.size ∧ w'.cell? ⟨b, off + 4, none⟩ = some (.bool true)) ∧ Below w.heap.size w w' := h1.mono (fun e w' hh => by
    obtain ⟨v, rfl, hv, hb⟩ := hh
    obtain ⟨nv, vn, ln, co, va, vc, sa, sc, rfl, q1, q2⟩ := hv.lit
    obtain ⟨b, off, so, si, rfl, _, hbl, _, _, hc⟩ := rdSt_at q2 0 (by omega)
    refine ⟨⟨nv, vn, ln, co, va, _, vc, b, off, sc, by rw [hl], hbl, ?_⟩, hb⟩
    have := hc 4 _ rfl
    rw [he (by omega), Nat.zero_mul, Nat.add_zero] at this
    exact this)
  clear h1 he hl h3 hR e1
  go_enter Tryz.func9, Tryz.ntmps9
  go_upto_region 2 with (first
    | (go_at_call 10; refine h4.mono ?_; rintro e w1 ⟨⟨nv, vn, ln, co, va, vl, vc, b, off, sc, rfl, hbl, hc⟩, b1⟩))
  have hal := (Below.refl w1.heap.size w1).alloc (Nat.le_refl _) (.cells #[.string nv, .int .i64 vn, .int .i64 ln, .int .i64 co, .slice va vl vc, .slice (some ⟨b, off, none⟩) 1 sc] 28)
  have hal2 := hal.alloc hal.size (.cells #[.int .i64 0, .int .i64 0] 24)
  have hA : Bn ((w1.alloc (.cells #[.string nv, .int .i64 vn, .int .i64 ln, .int .i64 co, .slice va vl vc, .slice (some ⟨b, off, none⟩) 1 sc] 28)).alloc (.cells #[.int .i64 0, .int .i64 0] 24)) w1.heap.size [.string nv, .int .i64 vn, .int .i64 ln, .int .i64 co, .slice va vl vc, .slice (some ⟨b, off, none⟩) 1 sc] := (Bn.new w1 [.string nv, .int .i64 vn, .int .i64 ln, .int .i64 co, .slice va vl vc, .slice (some ⟨b, off, none⟩) 1 sc] 28 _ rfl).on ((Below.refl _ _).alloc (Nat.le_refl _) _)
  have hc2 := (hal2.cell (p := ⟨b, off + 4, none⟩) hbl).trans hc
  have hb2 := b1.trans (hal2.mono b1.size)
  obtain ⟨a5, _⟩ := hA 5 _ rfl
  clear hc hA hal hal2 h4 b1
  generalize (w1.alloc (.cells #[.string nv, .int .i64 vn, .int .i64 ln, .int .i64 co, .slice va vl vc, .slice (some ⟨b, off, none⟩) 1 sc] 28)).alloc (.cells #[.int .i64 0, .int .i64 0] 24) = w2 at *
  go_wp2
  go_ret
  exact ⟨rfl, hb2⟩
end Go.Proofs.YtccmmkhcacglhaaGreatDoor
