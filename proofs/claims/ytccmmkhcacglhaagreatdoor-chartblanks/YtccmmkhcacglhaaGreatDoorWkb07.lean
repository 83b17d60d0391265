import Derived.Test.YtccmmkhcacglhaaGreatDoorWkb06
import Derived.Test.YtccmmkhcacglhaaGreatDoorWkc05
import Derived.Test.YtccmmkhcacglhaaGreatDoorWkc17
import Derived.Test.YtccmmkhcacglhaaGreatDoorWkb03

/- A chart that was read is formed. Math alone. -/
namespace Go.Proofs.YtccmmkhcacglhaaGreatDoor
open Go.RowKit Go.Lib
set_option linter.unusedSimpArgs false
set_option linter.unusedVariables false

/-- The reader's words are words. -/
def WdG (r : RsC) : Prop := ∀ x ∈ r.1, OneW x.1 x.2.1
theorem wdG_sub {r r' : RsC} (h : WdG r) (hs : ∀ x ∈ r'.1, x ∈ r.1) : WdG r' := fun x hx => h x (hs x hx)
theorem wdG_fail {r : RsC} (h : WdG r) (e : Int) (p : Pl) : WdG (failC e p r) := wdG_sub h (by rw [failC_len]; exact fun _ => id)
theorem wdG_take {r : RsC} (h : WdG r) (fin : Pl) (s : List UInt8) : WdG (takeR fin s r) := by
  unfold takeR
  split
  · exact wdG_sub h (fun x hx => List.mem_of_mem_tail hx)
  · exact wdG_fail h _ _
theorem name_fm {r : RsC} (h : WdG r) (fin : Pl) : WdG (nameR fin r).2 ∧ ((nameR fin r).2.2.2 = 0 → plainB (nameR fin r).1.1 = true) := by
  obtain ⟨r1, r2⟩ := r
  cases r1 with
  | nil => exact ⟨wdG_fail h _ _, fun he => absurd he (failC_bad (by decide) _ _)⟩
  | cons w l =>
    have e : nameR fin (w :: l, r2) = if r2.2 = 0 ∧ plainB (tkW w).2 = true then (((tkW w).2, wPl w), (l, r2)) else (([], (0, 0)), failC 12 (hereR fin (w :: l, r2)) (w :: l, r2)) := rfl
    rw [e]
    split
    · next hq => exact ⟨wdG_sub h (fun x hx => List.mem_cons_of_mem _ hx), fun _ => hq.2⟩
    · exact ⟨wdG_fail h _ _, fun he => absurd he (failC_bad (by decide) _ _)⟩
theorem num_fm {r : RsC} (h : WdG r) (fin : Pl) : WdG (numR fin r).2 ∧ ((numR fin r).2.2.2 = 0 → nbB (numR fin r).1 = true) := by
  obtain ⟨r1, r2⟩ := r
  cases r1 with
  | nil => exact ⟨wdG_fail h _ _, fun he => absurd he (failC_bad (by decide) _ _)⟩
  | cons w l =>
    have e : numR fin (w :: l, r2) = if r2.2 = 0 ∧ w.1 = 2 then (valB 0 (tkW w).2, (l, r2)) else (0, failC 12 (hereR fin (w :: l, r2)) (w :: l, r2)) := rfl
    rw [e]
    split
    · next hq =>
      refine ⟨wdG_sub h (fun x hx => List.mem_cons_of_mem _ hx), fun _ => ?_⟩
      have hn : numB (byt w.2.1) = true := by
        rcases (h w List.mem_cons_self).kind with ⟨a, _⟩ | ⟨_, b⟩ | ⟨a, _⟩
        · omega
        · exact b
        · omega
      exact decide_eq_true (num_small hn)
    · exact ⟨wdG_fail h _ _, fun he => absurd he (failC_bad (by decide) _ _)⟩
theorem take_fm {ws : List Wd} (h : ∀ x ∈ ws, OneW x.1 x.2.1) (h0 : (takeC (ws.map tkW)).2.2 = 0) : exF (takeC (ws.map tkW)).1 = true ∧ ClX (takeC (ws.map tkW)).1 := by
  have hb : BadOr _ 0 (rdC (ws.map tkW)) := fine_read h _ 1 0 (by omega) (by omega)
  unfold takeC at h0 ⊢
  rcases hb with ⟨e1, e2⟩ | e1
  · rw [if_neg (by omega)] at h0 ⊢
    by_cases hq : fmX (rdC (ws.map tkW)).1 = true
    · rw [if_pos hq]
      refine ⟨?_, e2.1.cl⟩
      unfold exF
      rw [Bool.and_eq_true]
      exact ⟨hq, e2.1.pl⟩
    · rw [if_neg hq] at h0; exact absurd (show (13 : Int) = 0 from h0) (by decide)
  · rw [if_pos e1] at h0; exact absurd (show (12 : Int) = 0 from h0) (by decide)
theorem expr_fm {r : RsC} (h : WdG r) (fin : Pl) : WdG (exprR fin r).2 ∧ ((exprR fin r).2.2.2 = 0 → exF (exprR fin r).1 = true ∧ ClX (exprR fin r).1) := by
  have hd : WdG (r.1.drop (takeC (r.1.map tkW)).2.1, r.2) := wdG_sub h (fun x hx => List.mem_of_mem_drop hx)
  unfold exprR
  split
  · next h1 => exact ⟨h, fun he => absurd he h1⟩
  · split
    · next h2 => exact ⟨hd, fun _ => take_fm h h2⟩
    · split
      · exact ⟨wdG_fail h _ _, fun he => absurd he (failC_bad (by decide) _ _)⟩
      · next h2 _ => exact ⟨wdG_fail hd _ _, fun he => absurd he (failC_bad h2 _ _)⟩
theorem sets_fm (fin : Pl) : ∀ (g : Nat) (acc : List (List UInt8 × Sx)) (r : RsC), WdG r → WdG (setsR fin g acc r).2 ∧ ((∀ s ∈ acc, setF s = true ∧ ClX s.2) → (setsR fin g acc r).2.2.2 = 0 → ∀ s ∈ (setsR fin g acc r).1, setF s = true ∧ ClX s.2)
  | 0, acc, r, h => ⟨h, fun ha _ => ha⟩
  | g + 1, acc, r, h => by
    unfold setsR
    split
    · simp only
      obtain ⟨w1, n1⟩ := name_fm (wdG_take h fin wSet) fin
      have w2 := wdG_take w1 fin [61]
      obtain ⟨w3, n3⟩ := expr_fm w2 fin
      have gn := goes_name fin (takeR fin wSet r)
      have gt := goes_take fin [61] (nameR fin (takeR fin wSet r)).2
      have ge := goes_expr fin (takeR fin [61] (nameR fin (takeR fin wSet r)).2)
      generalize exprR fin (takeR fin [61] (nameR fin (takeR fin wSet r)).2) = E at *
      generalize nameR fin (takeR fin wSet r) = N at *
      obtain ⟨i1, i2⟩ := sets_fm fin g (acc ++ [(N.1.1, E.1)]) E.2 w3
      refine ⟨i1, fun ha he => i2 (fun s hs => ?_) he⟩
      have hE := (goes_sets fin g _ _).2 he
      rcases List.mem_append.1 hs with hs | hs
      · exact ha s hs
      · rw [List.mem_singleton.1 hs]
        have hN := gt.2 (ge.2 hE)
        refine ⟨?_, (n3 hE).2⟩
        show (plainB N.1.1 && exF E.1) = true
        rw [Bool.and_eq_true]
        exact ⟨n1 hN, (n3 hE).1⟩
    · exact ⟨h, fun ha _ => ha⟩
theorem on_fm {r : RsC} (h : WdG r) (fin : Pl) : WdG (onR fin r).2 ∧ ((onR fin r).2.2.2 = 0 → onF (onR fin r).1 = true ∧ OnCl (onR fin r).1) := by
  obtain ⟨w1, n1⟩ := name_fm (wdG_take h fin wOn) fin
  unfold onR
  simp only
  generalize nameR fin (takeR fin wOn r) = A at *
  obtain ⟨G, hG⟩ : ∃ g : (Bool × Sx) × RsC, (if isC wIf A.2 = true then ((fun x => ((true, x.1), x.2)) (exprR fin (takeR fin wIf A.2))) else ((false, noX), A.2)) = g := ⟨_, rfl⟩
  rw [hG]
  have hg : WdG G.2 ∧ (G.2.2.2 = 0 → (G.1.1 = true → exF G.1.2 = true ∧ ClX G.1.2) ∧ A.2.2.2 = 0) := by
    split at hG
    · obtain ⟨w2, n2⟩ := expr_fm (wdG_take w1 fin wIf) fin
      have ge := goes_expr fin (takeR fin wIf A.2)
      have gt := goes_take fin wIf A.2
      rw [← hG]
      exact ⟨w2, fun he => ⟨fun _ => n2 he, gt.2 (ge.2 he)⟩⟩
    · rw [← hG]
      exact ⟨w1, fun he => ⟨fun q => (by cases q), he⟩⟩
  clear hG
  obtain ⟨w4, n4⟩ := name_fm (wdG_take hg.1 fin wGo) fin
  have gn := (goes_take fin wGo G.2).trans (goes_name fin (takeR fin wGo G.2))
  generalize nameR fin (takeR fin wGo G.2) = N at *
  obtain ⟨w5, n5⟩ := sets_fm fin (N.2.1.length + 1) [] N.2 w4
  have gs := goes_sets fin (N.2.1.length + 1) [] N.2
  generalize setsR fin (N.2.1.length + 1) [] N.2 = S at *
  refine ⟨w5, fun he => ?_⟩
  have hN := gs.2 he
  obtain ⟨g1, g2⟩ := hg.2 (gn.2 hN)
  have hS := n5 (fun s hs => by simp at hs) he
  refine ⟨?_, fun hb => (g1 hb).2, fun s hs => (hS s hs).2⟩
  show (plainB A.1.1 && ((!G.1.1 || exF G.1.2) && (plainB N.1.1 && S.1.all setF))) = true
  rw [n1 g2, n4 hN, List.all_eq_true.2 (fun s hs => (hS s hs).1)]
  cases hb : G.1.1 with
  | true => rw [(g1 hb).1]; rfl
  | false => rfl
theorem kind_fm {r : RsC} (h : WdG r) (fin : Pl) (nm : List UInt8 × Pl) (os : List OnC) : WdG (kindR fin r).2 ∧ ((kindR fin r).2.2.2 = 0 → kndF (nm, (kindR fin r).1.1, (kindR fin r).1.2.1, (kindR fin r).1.2.2, os) = true) := by
  unfold kindR
  split
  · exact ⟨wdG_take h fin _, fun _ => rfl⟩
  · split
    · exact ⟨wdG_take h fin _, fun _ => rfl⟩
    · split
      · simp only
        obtain ⟨w1, n1⟩ := name_fm (wdG_take h fin wDo) fin
        generalize nameR fin (takeR fin wDo r) = A at *
        obtain ⟨w2, n2⟩ := name_fm (wdG_take w1 fin wUndo) fin
        have g2 := (goes_take fin wUndo A.2).trans (goes_name fin (takeR fin wUndo A.2))
        generalize nameR fin (takeR fin wUndo A.2) = B at *
        obtain ⟨w3, n3⟩ := num_fm (wdG_take w2 fin wAt) fin
        have g3 := (goes_take fin wAt B.2).trans (goes_num fin (takeR fin wAt B.2))
        generalize numR fin (takeR fin wAt B.2) = C at *
        obtain ⟨w4, n4⟩ := num_fm (wdG_take w3 fin wRetries) fin
        have g4 := (goes_take fin wRetries C.2).trans (goes_num fin (takeR fin wRetries C.2))
        generalize numR fin (takeR fin wRetries C.2) = E at *
        refine ⟨w4, fun he => ?_⟩
        have hC := g4.2 he
        have hB := g3.2 hC
        have hA := g2.2 hB
        have hd : A.1.1 ≠ [] := fun q => by
          have := plain_name (n1 hA)
          rw [q] at this
          revert this; decide
        unfold kndF
        rw [if_pos (step_do (h := (nm, (false, false), (A.1.1, B.1.1), (C.1, E.1), os)) hd)]
        show (!false && !false && plainB A.1.1 && plainB B.1.1 && nbB C.1 && nbB E.1) = true
        rw [n1 hA, n2 hB, n3 hC, n4 he]; rfl
      · exact ⟨h, fun _ => rfl⟩
theorem in_fm {α : Type} (fin : Pl) (inner : RsC → α × RsC) (Q : α → Prop) (hw : ∀ r, WdG r → WdG (inner r).2 ∧ ((inner r).2.2.2 = 0 → Q (inner r).1)) (hg : ∀ r, Goes r (inner r).2) :
    ∀ (g : Nat) (os : List OnC) (ss : List α) (r : RsC), WdG r → (∀ o ∈ os, onF o = true ∧ OnCl o) → (∀ x ∈ ss, Q x) → WdG (inR fin inner g os ss r).2 ∧ ((inR fin inner g os ss r).2.2.2 = 0 → (∀ o ∈ (inR fin inner g os ss r).1.1, onF o = true ∧ OnCl o) ∧ (∀ x ∈ (inR fin inner g os ss r).1.2, Q x)) := by
  have key : ∀ (g : Nat) (os : List OnC) (ss : List α) (r : RsC), WdG r → WdG (inR fin inner g os ss r).2 := by
    intro g
    induction g with
    | zero => exact fun os ss r h => h
    | succ g ih =>
      intro os ss r h
      unfold inR
      split
      · split
        · exact ih _ _ _ (on_fm h fin).1
        · exact ih _ _ _ (hw r h).1
      · exact h
  intro g
  induction g with
  | zero => exact fun os ss r h ho hs => ⟨h, fun _ => ⟨ho, hs⟩⟩
  | succ g ih =>
    intro os ss r h ho hs
    refine ⟨key _ _ _ _ h, ?_⟩
    unfold inR
    split
    · split
      · intro he
        have h0 := (goes_in fin inner hg g _ _ _).2 he
        have hk := (on_fm h fin).2 h0
        exact (ih (os ++ [(onR fin r).1]) ss (onR fin r).2 (on_fm h fin).1 (fun o hx => by
          rcases List.mem_append.1 hx with hx | hx
          · exact ho o hx
          · rw [List.mem_singleton.1 hx]; exact hk) hs).2 he
      · intro he
        have h0 := (goes_in fin inner hg g _ _ _).2 he
        exact (ih os (ss ++ [(inner r).1]) (inner r).2 (hw r h).1 ho (fun o hx => by
          rcases List.mem_append.1 hx with hx | hx
          · exact hs o hx
          · rw [List.mem_singleton.1 hx]; exact (hw r h).2 h0)).2 he
    · exact fun _ => ⟨ho, hs⟩
theorem st_fm (fin : Pl) : ∀ (k : Nat) (r : RsC), WdG r → k ≤ 6 → WdG (stR fin k r).2 ∧ ((stR fin k r).2.2.2 = 0 → stF (k + 1) (7 - k) (stR fin k r).1 = true ∧ StCl (k + 1) (stR fin k r).1)
  | 0, r, h, _ => ⟨wdG_fail h _ _, fun he => absurd he (failC_bad (by split <;> decide) _ r)⟩
  | k + 1, r, h, hk => by
    obtain ⟨w1, n1⟩ := name_fm (wdG_take h fin wState) fin
    have e : stR fin (k + 1) r = ((((nameR fin (takeR fin wState r)).1, (kindR fin (takeR fin [123] (nameR fin (takeR fin wState r)).2)).1.1, (kindR fin (takeR fin [123] (nameR fin (takeR fin wState r)).2)).1.2.1, (kindR fin (takeR fin [123] (nameR fin (takeR fin wState r)).2)).1.2.2, (inR fin (stR fin k) ((kindR fin (takeR fin [123] (nameR fin (takeR fin wState r)).2)).2.1.length + 1) [] [] (kindR fin (takeR fin [123] (nameR fin (takeR fin wState r)).2)).2).1.1), (inR fin (stR fin k) ((kindR fin (takeR fin [123] (nameR fin (takeR fin wState r)).2)).2.1.length + 1) [] [] (kindR fin (takeR fin [123] (nameR fin (takeR fin wState r)).2)).2).1.2), takeR fin [125] (inR fin (stR fin k) ((kindR fin (takeR fin [123] (nameR fin (takeR fin wState r)).2)).2.1.length + 1) [] [] (kindR fin (takeR fin [123] (nameR fin (takeR fin wState r)).2)).2).2) := rfl
    rw [e]
    clear e
    generalize nameR fin (takeR fin wState r) = A at *
    have g2 := goes_take fin [123] A.2
    have hk2 := fun os => kind_fm (wdG_take w1 fin [123]) fin A.1 os
    have g3 := goes_kind fin (takeR fin [123] A.2)
    generalize kindR fin (takeR fin [123] A.2) = K at *
    obtain ⟨i1, i2⟩ := in_fm fin (stR fin k) (fun x => stF (k + 1) (7 - k) x = true ∧ StCl (k + 1) x) (fun r h => st_fm fin k r h (by omega)) (fun r => (goes_st fin k r).1) (K.2.1.length + 1) [] [] K.2 (hk2 []).1 (fun x hx => by simp at hx) (fun x hx => by simp at hx)
    have g4 := goes_in fin (stR fin k) (fun r => (goes_st fin k r).1) (K.2.1.length + 1) [] [] K.2
    generalize inR fin (stR fin k) (K.2.1.length + 1) [] [] K.2 = I at *
    refine ⟨wdG_take i1 fin [125], fun he => ?_⟩
    have hI := (goes_take fin [125] I.2).2 he
    obtain ⟨j1, j2⟩ := i2 hI
    have hK := g4.2 hI
    have hA := g2.2 (g3.2 hK)
    refine ⟨?_, fun o ho => (j1 o ho).2, fun x hx => (j2 x hx).2⟩
    show (decide (7 - (k + 1) ≤ 6) && plainB A.1.1 && kndF (A.1, K.1.1, K.1.2.1, K.1.2.2, I.1.1) && I.1.1.all onF && I.1.2.all (stF (k + 1) (7 - (k + 1) + 1))) = true
    have hk7 : 7 - (k + 1) + 1 = 7 - k := by omega
    rw [hk7, decide_eq_true (by omega), n1 hA, (hk2 I.1.1).2 hK, List.all_eq_true.2 (fun o ho => (j1 o ho).1), List.all_eq_true.2 (fun o ho => (j2 o ho).1)]
    rfl
theorem sts_fm (fin : Pl) : ∀ (g : Nat) (acc : List (St 7)) (r : RsC), WdG r → (∀ x ∈ acc, stF 7 1 x = true ∧ StCl 7 x) → (stsR fin g acc r).2.2.2 = 0 → ∀ x ∈ (stsR fin g acc r).1, stF 7 1 x = true ∧ StCl 7 x
  | 0, acc, r, h, ha, _ => ha
  | g + 1, acc, r, h, ha, he => by
    unfold stsR at he ⊢
    split at he
    · rename_i h1
      rw [if_pos h1]
      have h0 : (stR fin 6 r).2.2.2 = 0 := by
        by_cases hz : (stR fin 6 r).2.2.2 = 0
        · exact hz
        · have ee : ∀ g acc, stsR fin g acc (stR fin 6 r).2 = (acc, (stR fin 6 r).2) := fun g acc => by
            cases g with
            | zero => rfl
            | succ g => unfold stsR; rw [if_neg (fun q => hz q.1)]
          rw [ee] at he; exact absurd he hz
      exact sts_fm fin g (acc ++ [(stR fin 6 r).1]) (stR fin 6 r).2 (st_fm fin 6 r h (by omega)).1 (fun x hx => by
        rcases List.mem_append.1 hx with hx | hx
        · exact ha x hx
        · rw [List.mem_singleton.1 hx]; exact (st_fm fin 6 r h (by omega)).2 h0) he
    · rename_i h1
      rw [if_neg h1]
      exact ha
theorem vars_fm (fin : Pl) : ∀ (g : Nat) (acc : List (List UInt8 × Int × Pl)) (r : RsC), WdG r → WdG (varsR fin g acc r).2 ∧ ((∀ x ∈ acc, varF x = true) → (varsR fin g acc r).2.2.2 = 0 → ∀ x ∈ (varsR fin g acc r).1, varF x = true)
  | 0, acc, r, h => ⟨h, fun ha _ => ha⟩
  | g + 1, acc, r, h => by
    unfold varsR
    split
    · simp only
      obtain ⟨w1, n1⟩ := name_fm (wdG_take h fin wVar) fin
      generalize nameR fin (takeR fin wVar r) = A at *
      have w2 := wdG_take w1 fin [61]
      have g2 := goes_take fin [61] A.2
      generalize takeR fin [61] A.2 = B at *
      obtain ⟨N, hN⟩ : ∃ x : Int × RsC, (if isC [45] B = true then (fun x => (-x.1, x.2)) (numR fin (takeR fin [45] B)) else numR fin B) = x := ⟨_, rfl⟩
      rw [hN]
      have hp : WdG N.2 ∧ (N.2.2.2 = 0 → (-1000000000 ≤ N.1 ∧ N.1 ≤ 1000000000) ∧ B.2.2 = 0) := by
        split at hN
        · obtain ⟨w3, n3⟩ := num_fm (wdG_take w2 fin [45]) fin
          have g3 := (goes_take fin [45] B).trans (goes_num fin (takeR fin [45] B))
          rw [← hN]
          refine ⟨w3, fun he => ⟨?_, g3.2 he⟩⟩
          have := nb_of (n3 he)
          show -1000000000 ≤ -(numR fin (takeR fin [45] B)).1 ∧ -(numR fin (takeR fin [45] B)).1 ≤ 1000000000
          omega
        · obtain ⟨w3, n3⟩ := num_fm w2 fin
          have g3 := goes_num fin B
          rw [← hN]
          refine ⟨w3, fun he => ⟨?_, g3.2 he⟩⟩
          have := nb_of (n3 he)
          omega
      clear hN
      obtain ⟨i1, i2⟩ := vars_fm fin g (acc ++ [(A.1.1, N.1, A.1.2)]) N.2 hp.1
      refine ⟨i1, fun ha he => i2 (fun x hx => ?_) he⟩
      have h0 := (goes_vars fin g _ _).2 he
      obtain ⟨p1, p2⟩ := hp.2 h0
      rcases List.mem_append.1 hx with hx | hx
      · exact ha x hx
      · rw [List.mem_singleton.1 hx]
        show (plainB A.1.1 && decide (-1000000000 ≤ N.1 ∧ N.1 ≤ 1000000000)) = true
        rw [n1 (g2.2 p2), decide_eq_true p1]; rfl
    · exact ⟨h, fun ha _ => ha⟩
/-- What is read of any text is formed. -/
theorem read_formed {s : List UInt8} (h0 : (readC s).2.2 = 0) : chF 7 (readC s).1 = true ∧ ∀ t ∈ (readC s).1.2.2.2, StCl 7 t := by
  unfold readC at h0 ⊢
  split at h0
  · rename_i h; exact absurd h0 h
  · rename_i h
    rw [if_neg h]
    obtain ⟨h2, h3⟩ := words_one (l := s) (by simpa using h)
    generalize (wordsS s).1 = ws at *
    generalize endP (runes s) 1 1 = fin at *
    have w0 : WdG (ws, (0, 0), 0) := h2
    obtain ⟨w1, n1⟩ := name_fm (wdG_take w0 fin wChart) fin
    unfold chR at h0 ⊢
    simp only at h0 ⊢
    generalize nameR fin (takeR fin wChart (ws, (0, 0), 0)) = A at *
    obtain ⟨w2, n2⟩ := num_fm w1 fin
    have g2 := goes_num fin A.2
    generalize numR fin A.2 = N at *
    have w3 := wdG_take w2 fin [123]
    have g3 := goes_take fin [123] N.2
    generalize takeR fin [123] N.2 = B at *
    obtain ⟨v1, v2⟩ := vars_fm fin (B.1.length + 1) [] B w3
    have g4 := goes_vars fin (B.1.length + 1) [] B
    generalize varsR fin (B.1.length + 1) [] B = V at *
    have hs := sts_fm fin (V.2.1.length + 1) [] V.2 v1 (fun x hx => by simp at hx)
    have g5 : (stsR fin (V.2.1.length + 1) [] V.2).2.2.2 = 0 → V.2.2.2 = 0 := fun he => by
      by_cases hz : V.2.2.2 = 0
      · exact hz
      · unfold stsR at he
        rw [if_neg (fun q => hz q.1)] at he
        exact absurd he hz
    generalize stsR fin (V.2.1.length + 1) [] V.2 = S at *
    have ge := (goes_take fin [125] S.2).2
    generalize takeR fin [125] S.2 = E at *
    obtain ⟨z, hz⟩ : ∃ z, (if E.2.2 = 0 ∧ E.1 ≠ [] then failC 12 (hereR fin E) E else E) = z := ⟨_, rfl⟩
    rw [hz] at h0 ⊢
    by_cases hzz : z.2.2 = 0
    · rw [if_pos hzz]
      have hE : E.2.2 = 0 := by
        by_cases hc : E.2.2 = 0 ∧ E.1 ≠ []
        · exact hc.1
        · rw [if_neg hc] at hz; rw [hz]; exact hzz
      have hS := ge hE
      have hV := g5 hS
      have hB := g4.2 hV
      have hN := g3.2 hB
      have hA := g2.2 hN
      have j1 := hs hS
      refine ⟨?_, fun t ht => (j1 t ht).2⟩
      show (plainB A.1.1 && nbB N.1 && V.1.all varF && S.1.all (stF 7 1)) = true
      rw [n1 hA, n2 hN, List.all_eq_true.2 (v2 (fun x hx => by simp at hx) hV), List.all_eq_true.2 (fun x hx => (j1 x hx).1)]
      rfl
    · rw [if_neg hzz] at h0; exact absurd h0 hzz
end Go.Proofs.YtccmmkhcacglhaaGreatDoor

/- A chart that was read may be stripped and compared: names are short, lists not long, states not many. -/
namespace Go.Proofs.YtccmmkhcacglhaaGreatDoor
open Go.RowKit Go.Lib
set_option linter.unusedSimpArgs false
set_option linter.unusedVariables false

theorem rt_shrt : ∀ (d : Nat) (t : T d), Cl d t → rtT dcN d t → shrt 1000 d t = true
  | 0, t, _, _ => Empty.elim t
  | d + 1, t, hc, hr => by
    rcases hc.cases with ⟨n, rfl⟩ | ⟨s, rfl⟩ | ⟨k, p, hk, rfl, hp⟩ | ⟨s, p, q, rfl, hp, hq⟩ | rfl
    · rfl
    · have hn : nameS s.data.toList = true := hr.2.1 rfl
      have := name_len hn
      rw [shrt_mk, Bool.and_eq_true]
      refine ⟨decide_eq_true ?_, rfl⟩
      have e : s.size = s.data.toList.length := by rw [Array.length_toList]; rfl
      omega
    · have hrp : rtT dcN d p := by
        have h2 : ∀ z ∈ [fold (rtF dcN) d p], z := hr.2.2.2.2
        exact h2 (fold (rtF dcN) d p) List.mem_cons_self
      have := rt_shrt d p hp hrp
      rw [shrt_mk, Bool.and_eq_true]
      refine ⟨rfl, ?_⟩
      simp [this]
    · have h2 : ∀ z ∈ [fold (rtF dcN) d p, fold (rtF dcN) d q], z := hr.2.2.2.2
      have h3 := rt_shrt d p hp (h2 (fold (rtF dcN) d p) List.mem_cons_self)
      have h4 := rt_shrt d q hq (h2 (fold (rtF dcN) d q) (List.mem_cons_of_mem _ List.mem_cons_self))
      have ho : opB s.data.toList := hr.2.2.1 rfl
      have := op_len ho
      rw [shrt_mk, Bool.and_eq_true]
      refine ⟨decide_eq_true ?_, ?_⟩
      · have e : s.size = s.data.toList.length := by rw [Array.length_toList]; rfl
        omega
      · simp [h3, h4]
    · rfl
theorem ex_ok {x : Sx} (hc : ClX x) (h : exF x = true) : ExOk x := by
  have hfm : fmC x.1 x.2 = true := by
    unfold exF at h
    exact ((Bool.and_eq_true _ _).mp h).1
  exact ⟨hc, by have := (fm_parts hfm).1; unfold cntX; omega, rt_shrt x.1 x.2 hc (exF_parts hc h).2⟩
theorem plain_len {s : List UInt8} (h : plainB s = true) : s.length ≤ 140737488351232 := by
  have := name_len (plain_name h)
  omega
theorem on_okF {o : OnC} (hf : onF o = true) (hc : OnCl o) (hl : o.2.2.2.1.length ≤ 100000) : OnOk o := by
  obtain ⟨h1, h2, h3, h4⟩ := onF_parts hf
  rw [List.all_eq_true] at h4
  refine ⟨plain_len h1, plain_len h3, fun hb => ex_ok (hc.1 hb) (h2 hb), fun s hs => ?_, hl⟩
  have h5 := h4 s hs
  unfold setF at h5
  rw [Bool.and_eq_true] at h5
  exact ⟨plain_len h5.1, ex_ok (hc.2 s hs) h5.2⟩
/-- No list in it is long. -/
def LnS : (d : Nat) → St d → Prop
  | 0, t => Empty.elim t
  | d + 1, t => (∀ o ∈ t.1.2.2.2.2, o.2.2.2.1.length ≤ 100000) ∧ t.1.2.2.2.2.length ≤ 100000 ∧ t.2.length ≤ 100000 ∧ ∀ x ∈ t.2, LnS d x
theorem st_okF : ∀ (d n : Nat) (t : St d), stF d n t = true → StCl d t → LnS d t → StOk d t
  | 0, _, t, _, _, _ => Empty.elim t
  | d + 1, n, t, hf, hc, hl => by
    obtain ⟨h1, h2, h3, h4, h5⟩ := stF_parts hf
    rw [List.all_eq_true] at h4 h5
    have hk : t.1.2.2.1.1.length ≤ 140737488351232 ∧ t.1.2.2.1.2.length ≤ 140737488351232 := by
      cases hs : stepB t.1 with
      | true =>
        obtain ⟨_, _, k3, k4, _, _⟩ := kndF_step h3 hs
        exact ⟨plain_len k3, plain_len k4⟩
      | false =>
        unfold stepB at hs
        simp only [Bool.not_eq_false', Bool.and_eq_true, decide_eq_true_eq] at hs
        rw [hs.1.1.1, hs.1.1.2]
        simp
    exact ⟨⟨plain_len h2, hk.1, hk.2, hl.2.1, fun o ho => on_okF (h4 o ho) (hc.1 o ho) (hl.1 o ho)⟩, hl.2.2.1, fun x hx => st_okF d (n + 1) x (h5 x hx) (hc.2 x hx) (hl.2.2.2 x hx)⟩
theorem ln_of : ∀ (d : Nat) (t : St d), OkS d t → LnS d t
  | 0, t, _ => Empty.elim t
  | d + 1, t, h => ⟨fun o ho => by have := (h.1 o ho).2.2.2.2; omega, by have := h.2.1; omega, by have := h.2.2.1; omega, fun x hx => ln_of d x (h.2.2.2 x hx)⟩
theorem in_tot {α : Type} (fin : Pl) (inner : RsC → α × RsC) (f : α → Nat) (hf : ∀ r, (inner r).2.2.2 = 0 → f (inner r).1 + (inner r).2.1.length ≤ r.1.length) (hg : ∀ r, Goes r (inner r).2) :
    ∀ (g : Nat) (os : List OnC) (ss : List α) (r : RsC), (inR fin inner g os ss r).2.2.2 = 0 → ((inR fin inner g os ss r).1.2.map f).sum + (inR fin inner g os ss r).2.1.length ≤ (ss.map f).sum + r.1.length := by
  intro g
  induction g with
  | zero => exact fun os ss r _ => Nat.le_refl _
  | succ g ih =>
    intro os ss r
    unfold inR
    split
    · split
      · intro he
        have h1 := ih (os ++ [(onR fin r).1]) ss (onR fin r).2 he
        have h2 := (goes_on fin r).1
        omega
      · intro he
        have h0 := (goes_in fin inner hg g _ _ _).2 he
        have h1 := ih os (ss ++ [(inner r).1]) (inner r).2 he
        have h2 := hf r h0
        rw [List.map_append, List.sum_append, List.map_singleton, List.sum_singleton] at h1
        omega
    · exact fun _ => Nat.le_refl _
theorem st_tot (fin : Pl) : ∀ (k : Nat) (r : RsC), (stR fin k r).2.2.2 = 0 → szL k (stR fin k r).1.2 + (stR fin k r).2.1.length ≤ r.1.length
  | 0, r, he => absurd he (failC_bad (by split <;> decide) _ r)
  | k + 1, r, he => by
    have e : stR fin (k + 1) r = ((((nameR fin (takeR fin wState r)).1, (kindR fin (takeR fin [123] (nameR fin (takeR fin wState r)).2)).1.1, (kindR fin (takeR fin [123] (nameR fin (takeR fin wState r)).2)).1.2.1, (kindR fin (takeR fin [123] (nameR fin (takeR fin wState r)).2)).1.2.2, (inR fin (stR fin k) ((kindR fin (takeR fin [123] (nameR fin (takeR fin wState r)).2)).2.1.length + 1) [] [] (kindR fin (takeR fin [123] (nameR fin (takeR fin wState r)).2)).2).1.1), (inR fin (stR fin k) ((kindR fin (takeR fin [123] (nameR fin (takeR fin wState r)).2)).2.1.length + 1) [] [] (kindR fin (takeR fin [123] (nameR fin (takeR fin wState r)).2)).2).1.2), takeR fin [125] (inR fin (stR fin k) ((kindR fin (takeR fin [123] (nameR fin (takeR fin wState r)).2)).2.1.length + 1) [] [] (kindR fin (takeR fin [123] (nameR fin (takeR fin wState r)).2)).2).2) := rfl
    rw [e] at he ⊢
    clear e
    have g1 := (goes_take fin wState r).trans ((goes_name fin (takeR fin wState r)).trans ((goes_take fin [123] (nameR fin (takeR fin wState r)).2).trans (goes_kind fin (takeR fin [123] (nameR fin (takeR fin wState r)).2))))
    generalize kindR fin (takeR fin [123] (nameR fin (takeR fin wState r)).2) = K at *
    have hI := in_tot fin (stR fin k) (fun t => szL k t.2) (fun r he => st_tot fin k r he) (fun r => (goes_st fin k r).1) (K.2.1.length + 1) [] [] K.2
    generalize inR fin (stR fin k) (K.2.1.length + 1) [] [] K.2 = I at *
    have h0 := (goes_take fin [125] I.2).2 he
    have h1 := hI h0
    have h2 := takeR_less fin (take_ok he)
    have e2 : szL (k + 1) I.1.2 = (I.1.2.map (fun t => szL k t.2)).sum + 1 := rfl
    show szL (k + 1) I.1.2 + (takeR fin [125] I.2).1.length ≤ r.1.length
    have h3 := g1.1
    simp only [List.map_nil, List.sum_nil, Nat.zero_add] at h1
    omega
theorem sts_tot (fin : Pl) : ∀ (g : Nat) (acc : List (St 7)) (r : RsC), (stsR fin g acc r).2.2.2 = 0 → ((stsR fin g acc r).1.map (fun t => szL 6 t.2)).sum + (stsR fin g acc r).2.1.length ≤ (acc.map (fun t => szL 6 t.2)).sum + r.1.length
  | 0, acc, r, _ => Nat.le_refl _
  | g + 1, acc, r, he => by
    unfold stsR at he ⊢
    split at he
    · rename_i h1
      rw [if_pos h1]
      have h0 : (stR fin 6 r).2.2.2 = 0 := by
        by_cases hz : (stR fin 6 r).2.2.2 = 0
        · exact hz
        · rw [sts_err hz] at he; exact absurd he hz
      have h2 := sts_tot fin g (acc ++ [(stR fin 6 r).1]) (stR fin 6 r).2 he
      have h3 := st_tot fin 6 r h0
      rw [List.map_append, List.sum_append, List.map_singleton, List.sum_singleton] at h2
      omega
    · rename_i h1
      rw [if_neg h1]
      exact Nat.le_refl _
theorem read_tot (s : List UInt8) : szL 7 (readC s).1.2.2.2 ≤ 3001 := by
  have hno : szL 7 noC.2.2.2 ≤ 3001 := by show (1 : Nat) ≤ 3001; omega
  unfold readC
  split
  · exact hno
  · rename_i h
    obtain ⟨h2, h3⟩ := words_one (l := s) (by simpa using h)
    generalize (wordsS s).1 = ws at *
    generalize endP (runes s) 1 1 = fin
    unfold chR
    simp only
    have g1 := (goes_take fin wChart (ws, (0, 0), 0)).trans ((goes_name fin (takeR fin wChart (ws, (0, 0), 0))).trans ((goes_num fin (nameR fin (takeR fin wChart (ws, (0, 0), 0))).2).trans (goes_take fin [123] (numR fin (nameR fin (takeR fin wChart (ws, (0, 0), 0))).2).2)))
    generalize takeR fin [123] (numR fin (nameR fin (takeR fin wChart (ws, (0, 0), 0))).2).2 = B at *
    have g2 := goes_vars fin (B.1.length + 1) [] B
    generalize varsR fin (B.1.length + 1) [] B = V at *
    have hs := sts_tot fin (V.2.1.length + 1) [] V.2
    generalize stsR fin (V.2.1.length + 1) [] V.2 = S at *
    have ge := (goes_take fin [125] S.2).2
    generalize takeR fin [125] S.2 = E at *
    obtain ⟨z, hz⟩ : ∃ z, (if E.2.2 = 0 ∧ E.1 ≠ [] then failC 12 (hereR fin E) E else E) = z := ⟨_, rfl⟩
    rw [hz]
    by_cases hzz : z.2.2 = 0
    · rw [if_pos hzz]
      have hE : E.2.2 = 0 := by
        by_cases hc : E.2.2 = 0 ∧ E.1 ≠ []
        · exact hc.1
        · rw [if_neg hc] at hz; rw [hz]; exact hzz
      have h4 := hs (ge hE)
      have h5 := g1.1
      have h6 := g2.1
      have e2 : szL 7 S.1 = (S.1.map (fun t => szL 6 t.2)).sum + 1 := rfl
      show szL 7 S.1 ≤ 3001
      have h7 : (ws, ((0, 0) : Pl), (0 : Int)).1.length = ws.length := rfl
      rw [h7] at h5
      simp only [List.map_nil, List.sum_nil, Nat.zero_add] at h4
      omega
    · rw [if_neg hzz]; exact hno
theorem noC_ok : ChOk 7 noC := ⟨by simp [noC], by simp [noC], fun x hx => by simp [noC] at hx, ⟨by simp [noC], fun t ht => by simp [noC] at ht⟩, by show (1 : Nat) ≤ 1000000; omega⟩
theorem read_bad {s : List UInt8} (h : (readC s).2.2 ≠ 0) : (readC s).1 = noC := by
  unfold readC at h ⊢
  split
  · rfl
  · rename_i h1
    rw [if_neg h1] at h
    generalize (wordsS s).1 = ws at *
    generalize endP (runes s) 1 1 = fin at *
    unfold chR at h ⊢
    simp only at h ⊢
    generalize (if (takeR fin [125] _).2.2 = 0 ∧ (takeR fin [125] _).1 ≠ [] then failC 12 (hereR fin (takeR fin [125] _)) (takeR fin [125] _) else (takeR fin [125] _)) = z at *
    by_cases hz : z.2.2 = 0
    · rw [if_pos hz] at h; exact absurd rfl h
    · rw [if_neg hz]
/-- What is read of any text. -/
theorem read_chok (s : List UInt8) : ChOk 7 (readC s).1 := by
  by_cases h : (readC s).2.2 = 0
  · obtain ⟨hf, hc⟩ := read_formed h
    obtain ⟨k1, k2, k3⟩ := read_ok s
    obtain ⟨f1, f2, f3, f4⟩ := chF_parts hf
    rw [List.all_eq_true] at f3 f4
    refine ⟨plain_len f1, by omega, fun x hx => ?_, ⟨by show (readC s).1.2.2.2.length ≤ 100000; omega, fun t ht => st_okF 7 1 t (f4 t ht) (hc t ht) (ln_of 7 t (k1 t ht))⟩, by have := read_tot s; omega⟩
    have := f3 x hx
    unfold varF at this
    rw [Bool.and_eq_true] at this
    exact plain_len this.1
  · rw [read_bad h]; exact noC_ok
theorem stok_st : ∀ (d : Nat) (t : St d), StOk d t → StOk d (stS d t)
  | 0, t, _ => Empty.elim t
  | d + 1, t, h => by
    obtain ⟨⟨h1, h2, h3, h4, h5⟩, h6, h7⟩ := h
    refine ⟨⟨h1, h2, h3, ?_, fun o ho => ?_⟩, ?_, fun x hx => ?_⟩
    · show (t.1.2.2.2.2.map stO).length ≤ 100000
      rw [List.length_map]; exact h4
    · have ho : o ∈ t.1.2.2.2.2.map stO := ho
      obtain ⟨o', ho', rfl⟩ := List.mem_map.1 ho
      exact h5 o' ho'
    · show (t.2.map (stS d)).length ≤ 100000
      rw [List.length_map]; exact h6
    · have hx : x ∈ t.2.map (stS d) := hx
      obtain ⟨x', hx', rfl⟩ := List.mem_map.1 hx
      exact stok_st d x' (h7 x' hx')
theorem szL_st : ∀ (d : Nat) (l : List (St d)), szL d (l.map (stS d)) = szL d l
  | 0, l => rfl
  | d + 1, l => by
    show ((l.map (stS (d + 1))).map (fun t => szL d t.2)).sum + 1 = (l.map (fun t => szL d t.2)).sum + 1
    rw [List.map_map]
    congr 2
    apply List.map_congr_left
    intro t _
    exact szL_st d t.2
theorem chok_st {d : Nat} {c : ChG d} (h : ChOk d c) : ChOk d (stG d c) := by
  refine ⟨h.nm, by show (c.2.2.1.map spV).length ≤ _; rw [List.length_map]; exact h.vl, fun x hx => ?_, ⟨by show (c.2.2.2.map (stS d)).length ≤ _; rw [List.length_map]; exact h.fo.1, fun t ht => ?_⟩, by show szL d (c.2.2.2.map (stS d)) ≤ _; rw [szL_st]; exact h.sz⟩
  · have hx : x ∈ c.2.2.1.map spV := hx
    obtain ⟨x', hx', rfl⟩ := List.mem_map.1 hx
    exact h.vn x' hx'
  · have ht : t ∈ c.2.2.2.map (stS d) := ht
    obtain ⟨t', ht', rfl⟩ := List.mem_map.1 ht
    exact stok_st d t' (h.fo.2 t' ht')
end Go.Proofs.YtccmmkhcacglhaaGreatDoor

/- A text with more blanks and lines around its blanks and braces has the same words but for places. Math alone. -/
namespace Go.Proofs.YtccmmkhcacglhaaGreatDoor
open Go.RowKit Go.Lib
set_option linter.unusedVariables false
def spB (c : UInt8) : Bool := c == 32 || c == 123 || c == 125
def wideB : List UInt8 → List UInt8
  | [] => []
  | c :: r => if spB c = true then 32 :: c :: 10 :: 9 :: wideB r else c :: wideB r
theorem wideB_len : ∀ s : List UInt8, (wideB s).length ≤ 4 * s.length
  | [] => by simp [wideB]
  | c :: r => by
    have := wideB_len r
    unfold wideB
    split <;> simp only [List.length_cons] <;> omega
def spR (v : Ru) : Bool := decide (v.1 = 32) || decide (v.1 = 123) || decide (v.1 = 125)
def wideR : List Ru → List Ru
  | [] => []
  | v :: r => if spR v = true then (32, [32]) :: v :: (10, [10]) :: (9, [9]) :: wideR r else v :: wideR r
theorem wideR_no : ∀ (a b : List Ru), (∀ v ∈ a, spR v = false) → wideR (a ++ b) = a ++ wideR b
  | [], b, _ => rfl
  | v :: a, b, h => by
    show (if spR v = true then (32, [32]) :: v :: (10, [10]) :: (9, [9]) :: wideR (a ++ b) else v :: wideR (a ++ b)) = v :: (a ++ wideR b)
    rw [if_neg (by rw [h v (List.mem_cons_self ..)]; decide), wideR_no a b (fun x hx => h x (List.mem_cons_of_mem _ hx))]
theorem wideB_no : ∀ (a b : List UInt8), (∀ v ∈ a, spB v = false) → wideB (a ++ b) = a ++ wideB b
  | [], b, _ => rfl
  | v :: a, b, h => by
    show (if spB v = true then 32 :: v :: 10 :: 9 :: wideB (a ++ b) else v :: wideB (a ++ b)) = v :: (a ++ wideB b)
    rw [if_neg (by rw [h v (List.mem_cons_self ..)]; decide), wideB_no a b (fun x hx => h x (List.mem_cons_of_mem _ hx))]
theorem part_at {α : Type} (p : α → Bool) : ∀ l : List α, (∀ v ∈ l, p v = false) ∨ ∃ a z b, l = a ++ z :: b ∧ p z = true ∧ ∀ v ∈ a, p v = false
  | [] => .inl (fun v hv => by cases hv)
  | x :: l => by
    cases hx : p x with
    | true => exact .inr ⟨[], x, l, rfl, hx, fun v hv => by cases hv⟩
    | false =>
      rcases part_at p l with h | ⟨a, z, b, rfl, hz, ha⟩
      · exact .inl (fun v hv => (List.mem_cons.1 hv).elim (fun e => e ▸ hx) (fun h' => h v h'))
      · exact .inr ⟨x :: a, z, b, rfl, hz, fun v hv => (List.mem_cons.1 hv).elim (fun e => e ▸ hx) (fun h' => ha v h')⟩
theorem spB_asc {c : UInt8} (h : spB c = true) : c.toNat < 128 ∧ (c = 32 ∨ c = 123 ∨ c = 125) := by
  unfold spB at h
  simp only [Bool.or_eq_true, beq_iff_eq] at h
  rcases h with (rfl | rfl) | rfl
  · exact ⟨by decide, .inl rfl⟩
  · exact ⟨by decide, .inr (.inl rfl)⟩
  · exact ⟨by decide, .inr (.inr rfl)⟩
theorem spR_no {a : List UInt8} (h : ∀ v ∈ a, spB v = false) : ∀ v ∈ runes a, spR v = false := by
  intro v hv
  obtain ⟨c, r, h1, h2, h3⟩ := runes_form _ a (Nat.le_refl _) v hv
  have hc : c ∈ a := by
    have hb := byt_runes _ a (Nat.le_refl _)
    rw [← hb]
    unfold byt
    exact List.mem_flatten.2 ⟨v.2, List.mem_map.2 ⟨v, hv, rfl⟩, by rw [h1]; exact List.mem_cons_self ..⟩
  have hs := h c hc
  unfold spB at hs
  simp only [Bool.or_eq_false_iff, beq_eq_false_iff_ne, ne_eq] at hs
  unfold spR
  simp only [Bool.or_eq_false_iff, decide_eq_false_iff_not]
  by_cases hc8 : c.toNat < 128
  · have hv1 := (h2 hc8).1
    have k : ∀ n : Nat, n < 256 → ¬ c = UInt8.ofNat n → ¬ v.1 = (n : Int) := fun n hn hne e => hne (by
      rw [hv1] at e
      have : c.toNat = n := by omega
      rw [← this]; simp)
    exact ⟨⟨k 32 (by decide) hs.1.1, k 123 (by decide) hs.1.2⟩, k 125 (by decide) hs.2⟩
  · rcases h3 hc8 with e | e <;> exact ⟨⟨by omega, by omega⟩, by omega⟩
theorem runes_wide : ∀ (n : Nat) (s : List UInt8), s.length ≤ n → runes (wideB s) = wideR (runes s)
  | 0, s, h => by
    have : s = [] := List.eq_nil_of_length_eq_zero (by omega)
    subst this; rfl
  | n + 1, s, h => by
    rcases part_at spB s with h1 | ⟨a, z, b, rfl, hz, ha⟩
    · have e1 := wideB_no s [] h1
      have e2 := wideR_no (runes s) [] (spR_no h1)
      rw [List.append_nil] at e1 e2
      rw [e1, e2, show wideB [] = [] from rfl, show wideR [] = [] from rfl, List.append_nil, List.append_nil]
    · obtain ⟨z8, hz3⟩ := spB_asc hz
      have e1 : wideB (z :: b) = 32 :: z :: 10 :: 9 :: wideB b := by show (if spB z = true then _ else _) = _; rw [if_pos hz]
      have hl : b.length ≤ n := by simp only [List.length_append, List.length_cons] at h; omega
      rw [wideB_no a _ ha, e1, runes_stop _ a (Nat.le_refl _) (by decide) _, runes_stop _ a (Nat.le_refl _) z8 _, wideR_no _ _ (spR_no ha), runes_ascii (by decide), runes_ascii z8, runes_ascii (by decide), runes_ascii (by decide), runes_wide n b hl, runes_ascii z8]
      have hzr : spR ((z.toNat : Int), [z]) = true := by rcases hz3 with rfl | rfl | rfl <;> decide
      rw [show wideR (((z.toNat : Int), [z]) :: runes b) = (32, [32]) :: ((z.toNat : Int), [z]) :: (10, [10]) :: (9, [9]) :: wideR (runes b) from by show (if spR _ = true then _ else _) = _; rw [if_pos hzr]]
      rfl
theorem stop_sp {z : Ru} (h : spR z = true) : Stop z := by
  unfold spR at h
  simp only [Bool.or_eq_true, decide_eq_true_eq] at h
  unfold Stop
  rcases h with (h | h) | h <;> rw [h] <;> decide
theorem fst_brace {v : Ru} (h : v.1 = 123 ∨ v.1 = 125) (t : List Ru) : fst1 (v :: t) = (3, 1) := by
  rw [fst1_cons]
  have hs : sgn (v :: t) = 1 := by
    match t with
    | [] => show one v.1 = 1; rcases h with h | h <;> rw [h] <;> decide
    | u :: r =>
      show (if pair v.1 u.1 = true then 2 else one v.1) = 1
      have hp : pair v.1 u.1 = false := by
        unfold pair
        rcases h with h | h <;> rw [h] <;> simp
      rw [hp, if_neg (by decide)]
      rcases h with h | h <;> rw [h] <;> decide
  rw [hs]
  have h1 : letter v.1 = false := by rcases h with h | h <;> rw [h] <;> decide
  have h2 : dgt v.1 = false := by rcases h with h | h <;> rw [h] <;> decide
  rw [h1, h2, if_neg (by decide), if_neg (by decide), if_neg (by decide)]
theorem wideR_sp {v : Ru} (h : spR v = true) (t : List Ru) : wideR (v :: t) = (32, [32]) :: v :: (10, [10]) :: (9, [9]) :: wideR t := by
  show (if spR v = true then _ else _) = _
  rw [if_pos h]
theorem wideR_ns {v : Ru} (h : spR v = false) (t : List Ru) : wideR (v :: t) = v :: wideR t := by
  show (if spR v = true then _ else _) = _
  rw [if_neg (by rw [h]; decide)]
theorem word_both {v : Ru} {t t' : List Ru} (h10 : v.1 ≠ 10) (h32 : ¬ (v.1 = 32 ∨ v.1 = 9)) (h35 : v.1 ≠ 35) (hf : fst1 (v :: t) = fst1 (v :: t')) (htk : (fst1 (v :: t')).1 ≠ 0 → (v :: t).take (fst1 (v :: t')).2 = (v :: t').take (fst1 (v :: t')).2)
    (hdr : (fst1 (v :: t')).1 ≠ 0 → ∀ (ln co ln' co' : Int) (k : Nat), er (wrds ((v :: t).drop (fst1 (v :: t')).2) ln co k) = er (wrds ((v :: t').drop (fst1 (v :: t')).2) ln' co' k)) (ln co ln' co' : Int) (k : Nat) :
    er (wrds (v :: t) ln co k) = er (wrds (v :: t') ln' co' k) := by
  rw [wrds_cons v t, wrds_cons v t', if_neg h10, if_neg h10, if_neg h32, if_neg h32, if_neg h35, if_neg h35, hf]
  by_cases h0 : (fst1 (v :: t')).1 = 0
  · rw [if_pos h0, if_pos h0]; rfl
  rw [if_neg h0, if_neg h0]
  by_cases hk : k = 3000
  · rw [if_pos hk, if_pos hk]; rfl
  rw [if_neg hk, if_neg hk]
  exact er_pre_same rfl (htk h0) (hdr h0 _ _ _ _ _)
theorem words_wide : ∀ (n : Nat) (R : List Ru), R.length ≤ n → (∀ v ∈ R, v.1 ≠ 35) → ∀ (ln co ln' co' : Int) (k : Nat), er (wrds (wideR R) ln co k) = er (wrds R ln' co' k)
  | _, [], _, _, ln, co, ln', co', k => rfl
  | 0, v :: t, h, _, ln, co, ln', co', k => by simp at h
  | n + 1, v :: t, h, hn, ln, co, ln', co', k => by
    have ht : t.length ≤ n := by simp only [List.length_cons] at h; omega
    have hnt : ∀ x ∈ t, x.1 ≠ 35 := fun x hx => hn x (List.mem_cons_of_mem _ hx)
    have h35 := hn v (List.mem_cons_self ..)
    cases hs : spR v with
    | true =>
      rw [wideR_sp hs, wrds_cons, if_neg (by decide), if_pos (.inl rfl)]
      by_cases h32 : v.1 = 32
      · rw [wrds_cons, if_neg (by omega), if_pos (.inl h32), wrds_cons, if_pos rfl, wrds_cons, if_neg (by decide), if_pos (.inr rfl), wrds_cons v t, if_neg (by omega), if_pos (.inl h32)]
        exact words_wide n t ht hnt _ _ _ _ _
      · have hb : v.1 = 123 ∨ v.1 = 125 := by
          unfold spR at hs
          simp only [Bool.or_eq_true, decide_eq_true_eq] at hs
          omega
        refine word_both (by omega) (by omega) h35 (by rw [fst_brace hb, fst_brace hb]) (fun _ => by rw [fst_brace hb]; rfl) (fun _ => ?_) _ _ _ _ _
        intro l1 c1 l2 c2 k2
        rw [fst_brace hb]
        show er (wrds ((10, [10]) :: (9, [9]) :: wideR t) _ _ _) = er (wrds t _ _ _)
        rw [wrds_cons, if_pos rfl, wrds_cons, if_neg (by decide), if_pos (.inr rfl)]
        exact words_wide n t ht hnt _ _ _ _ _
    | false =>
      by_cases h10 : v.1 = 10
      · rw [wideR_ns hs, wrds_cons, if_pos h10, wrds_cons, if_pos h10]
        exact words_wide n t ht hnt _ _ _ _ _
      by_cases h9 : v.1 = 9
      · rw [wideR_ns hs, wrds_cons, if_neg h10, if_pos (.inr h9), wrds_cons, if_neg h10, if_pos (.inr h9)]
        exact words_wide n t ht hnt _ _ _ _ _
      have h32 : ¬ (v.1 = 32 ∨ v.1 = 9) := by
        unfold spR at hs
        simp only [Bool.or_eq_false_iff, decide_eq_false_iff_not] at hs
        omega
      -- the word is one of the runes ahead of the first that is widened
      rcases part_at spR t with h1 | ⟨a, z, b, rfl, hz, ha⟩
      · have e := wideR_no (v :: t) [] (fun x hx => (List.mem_cons.1 hx).elim (fun e => e ▸ hs) (h1 x))
        rw [List.append_nil, show wideR [] = [] from rfl, List.append_nil] at e
        rw [e]
        exact er_place _ _ (Nat.le_refl _) _ _ _ _ _
      · have hva : ∀ x ∈ v :: a, spR x = false := fun x hx => (List.mem_cons.1 hx).elim (fun e => e ▸ hs) (ha x)
        have e : wideR (v :: (a ++ z :: b)) = v :: (a ++ wideR (z :: b)) := wideR_no (v :: a) (z :: b) hva
        have f1 : fst1 (v :: (a ++ z :: b)) = fst1 (v :: a) := fst1_stop (stop_sp hz) (v :: a) b (by simp)
        have f2 : fst1 (v :: (a ++ wideR (z :: b))) = fst1 (v :: a) := by rw [wideR_sp hz]; exact fst1_stop (stop_sp (by decide)) (v :: a) _ (by simp)
        rw [e]
        refine word_both h10 h32 h35 (by rw [f1, f2]) (fun h0 => ?_) (fun h0 => ?_) _ _ _ _ _
        · rw [f1] at h0 ⊢
          have hl := (fst1_le v a h0).2
          show ((v :: a) ++ wideR (z :: b)).take _ = ((v :: a) ++ z :: b).take _
          rw [List.take_append_of_le_length hl, List.take_append_of_le_length hl]
        · intro l1 c1 l2 c2 k2
          rw [f1] at h0 ⊢
          obtain ⟨hl1, hl⟩ := fst1_le v a h0
          show er (wrds (((v :: a) ++ wideR (z :: b)).drop _) _ _ _) = er (wrds (((v :: a) ++ z :: b).drop _) _ _ _)
          rw [List.drop_append_of_le_length hl, List.drop_append_of_le_length hl, ← wideR_no _ _ (fun x hx => hva x (List.mem_of_mem_drop hx))]
          refine words_wide n _ ?_ ?_ _ _ _ _ _
          · simp only [List.length_append, List.length_drop, List.length_cons] at h hl ⊢; omega
          · intro x hx
            rcases List.mem_append.1 hx with h' | h'
            · exact hn x (List.mem_append.2 (.inl (List.mem_of_mem_drop h')) : x ∈ (v :: a) ++ z :: b)
            · exact hn x (List.mem_append.2 (.inr h') : x ∈ (v :: a) ++ z :: b)
theorem tk_er {r r' : Rs} (h : er r = er r') : r.1.map tkW = r'.1.map tkW ∧ r.2.2 = r'.2.2 := by
  have h0 : (er r).2 = (er r').2 := by rw [h]
  refine ⟨?_, h0⟩
  have h1 : r.1.map (fun w => (w.1, w.2.1)) = r'.1.map (fun w => (w.1, w.2.1)) := congrArg Prod.fst h
  have h2 := congrArg (List.map (fun x : Nat × List Ru => (x.1, byt x.2))) h1
  rw [List.map_map, List.map_map] at h2
  exact h2
theorem no_remark {s : List UInt8} (h : ∀ c ∈ s, c ≠ 35) : ∀ v ∈ runes s, v.1 ≠ 35 := by
  intro v hv
  obtain ⟨c, r, h1, h2, h3⟩ := runes_form _ s (Nat.le_refl _) v hv
  have hc : c ∈ s := by
    have hb := byt_runes _ s (Nat.le_refl _)
    rw [← hb]
    unfold byt
    exact List.mem_flatten.2 ⟨v.2, List.mem_map.2 ⟨v, hv, rfl⟩, by rw [h1]; exact List.mem_cons_self ..⟩
  by_cases hc8 : c.toNat < 128
  · intro e
    rw [(h2 hc8).1] at e
    refine h c hc ?_
    have : c.toNat = 35 := by omega
    have e2 : c = UInt8.ofNat c.toNat := by simp
    rw [e2, this]; rfl
  · rcases h3 hc8 with e | e <;> omega
/-- The chart of a wide text is the text's, but for places. -/
theorem read_wide {s : List UInt8} (hl : s.length ≤ 3000) (h : ∀ c ∈ s, c ≠ 35) : stC (readC s).1 = stC (readC (wideB s)).1 ∧ (readC s).2.2 = (readC (wideB s)).2.2 := by
  have hw := wideB_len s
  have e : er (wordsS s) = er (wordsS (wideB s)) := by
    unfold wordsS
    rw [if_neg (by omega), if_neg (by omega), runes_wide _ s (Nat.le_refl _)]
    exact (words_wide _ _ (Nat.le_refl _) (no_remark h) _ _ _ _ _).symm
  obtain ⟨e1, e2⟩ := tk_er e
  exact read_lk e1 e2
end Go.Proofs.YtccmmkhcacglhaaGreatDoor
