import Derived.Test.YtccmmkhcacglhaaGreatDoorWkc04
import Derived.Lib.AtoiAll
import Derived.Shelf.Unicode.DecodeAny
import Derived.Lib.LaidU8
import Derived.PinnedBridge
import Derived.Test.YtccmmkhcacglhaaGreatDoorRows
import Derived.Lay
import Derived.LaidMore
import Derived.MakeChecks
import Derived.Test.YtccmmkhcacglhaaGreatDoorWkc01
import Derived.Deep.RegionHeld
import Derived.Deep.DrawnRows

/- Charts, and how they are read of words, as the document's reader does. Math alone. -/
namespace Go.Proofs.YtccmmkhcacglhaaGreatDoor
open Go.RowKit Go.Lib
set_option linter.unusedVariables false

abbrev Pl := Int × Int
/-- An on: event, guard (is there one, and which), target, sets, place. -/
abbrev OnC := List UInt8 × (Bool × Sx) × List UInt8 × List (List UInt8 × Sx) × Pl
/-- A state but for what lies in it: name, place, all, end, do, undo, where, retries, ons. -/
abbrev HdC := (List UInt8 × Pl) × (Bool × Bool) × (List UInt8 × List UInt8) × (Int × Int) × List OnC
/-- States that lie less than d deep in one another. -/
def St : Nat → Type
  | 0 => Empty
  | d + 1 => HdC × List (St d)
/-- The reader: the words that are left, the place of the first error, the error. -/
abbrev RsC := List Wd × Pl × Int
def wPl (w : Wd) : Pl := (w.2.2.1, w.2.2.2)
section
variable (fin : Pl)
def hereR (r : RsC) : Pl := match r.1 with | [] => fin | w :: _ => wPl w
def failC (e : Int) (p : Pl) (r : RsC) : RsC := if r.2.2 = 0 then (r.1, p, e) else r
def isC (s : List UInt8) (r : RsC) : Bool := decide (r.2.2 = 0) && (match r.1 with | [] => false | w :: _ => decide ((tkW w).2 = s))
def takeR (s : List UInt8) (r : RsC) : RsC := if isC s r = true then (r.1.tail, r.2) else failC 12 (hereR fin r) r
/-- Is it a name that is not reserved? -/
def plainB (s : List UInt8) : Bool := nameS s && !rsvB s
def nameR (r : RsC) : (List UInt8 × Pl) × RsC := match r.2.2 = 0, r.1 with
  | _, [] => (([], (0, 0)), failC 12 (hereR fin r) r)
  | _, w :: l => if r.2.2 = 0 ∧ plainB (tkW w).2 = true then (((tkW w).2, wPl w), (l, r.2)) else (([], (0, 0)), failC 12 (hereR fin r) r)
def numR (r : RsC) : Int × RsC := match r.1 with
  | [] => (0, failC 12 (hereR fin r) r)
  | w :: l => if r.2.2 = 0 ∧ w.1 = 2 then (valB 0 (tkW w).2, (l, r.2)) else (0, failC 12 (hereR fin r) r)
def exprR (r : RsC) : Sx × RsC := if r.2.2 ≠ 0 then (noX, r) else
  if (takeC (r.1.map tkW)).2.2 = 0 then ((takeC (r.1.map tkW)).1, (r.1.drop (takeC (r.1.map tkW)).2.1, r.2)) else
  if (takeC (r.1.map tkW)).2.2 = 13 then ((takeC (r.1.map tkW)).1, failC 13 (hereR fin r) r) else
  ((takeC (r.1.map tkW)).1, failC (takeC (r.1.map tkW)).2.2 (hereR fin (r.1.drop (takeC (r.1.map tkW)).2.1, r.2)) (r.1.drop (takeC (r.1.map tkW)).2.1, r.2))
def wOn : List UInt8 := [111, 110]
def wIf : List UInt8 := [105, 102]
def wGo : List UInt8 := [103, 111]
def wSet : List UInt8 := [115, 101, 116]
def wAll : List UInt8 := [97, 108, 108]
def wEnd : List UInt8 := [101, 110, 100]
def wDo : List UInt8 := [100, 111]
def wUndo : List UInt8 := [117, 110, 100, 111]
def wAt : List UInt8 := [97, 116]
def wRetries : List UInt8 := [114, 101, 116, 114, 105, 101, 115]
def wState : List UInt8 := [115, 116, 97, 116, 101]
def wChart : List UInt8 := [99, 104, 97, 114, 116]
def wVar : List UInt8 := [118, 97, 114]
/-- The sets behind an on; g bounds how many. -/
def setsR : Nat → List (List UInt8 × Sx) → RsC → List (List UInt8 × Sx) × RsC
  | 0, acc, r => (acc, r)
  | g + 1, acc, r => if isC wSet r = true then
      let a := nameR fin (takeR fin wSet r)
      let b := exprR fin (takeR fin [61] a.2)
      setsR g (acc ++ [(a.1.1, b.1)]) b.2
    else (acc, r)
def onR (r : RsC) : OnC × RsC :=
  let a := nameR fin (takeR fin wOn r)
  let g : (Bool × Sx) × RsC := if isC wIf a.2 = true then ((fun x => ((true, x.1), x.2)) (exprR fin (takeR fin wIf a.2))) else ((false, noX), a.2)
  let t := nameR fin (takeR fin wGo g.2)
  let s := setsR fin (t.2.1.length + 1) [] t.2
  ((a.1.1, g.1, t.1.1, s.1, a.1.2), s.2)
/-- What kind of state it is: all, end, do .. undo .. at .. retries, or nothing of these. -/
def kindR (r : RsC) : ((Bool × Bool) × (List UInt8 × List UInt8) × (Int × Int)) × RsC :=
  if isC wAll r = true then (((true, false), ([], []), (0, 0)), takeR fin wAll r) else
  if isC wEnd r = true then (((false, true), ([], []), (0, 0)), takeR fin wEnd r) else
  if isC wDo r = true then
    let a := nameR fin (takeR fin wDo r)
    let b := nameR fin (takeR fin wUndo a.2)
    let c := numR fin (takeR fin wAt b.2)
    let e := numR fin (takeR fin wRetries c.2)
    (((false, false), (a.1.1, b.1.1), (c.1, e.1)), e.2)
  else (((false, false), ([], []), (0, 0)), r)
/-- The ons and states within a state, of a reader of inner states; g bounds how many. -/
def inR {α : Type} (inner : RsC → α × RsC) : Nat → List OnC → List α → RsC → (List OnC × List α) × RsC
  | 0, os, ss, r => ((os, ss), r)
  | g + 1, os, ss, r => if r.2.2 = 0 ∧ isC [125] r = false then
      if isC wOn r = true then inR inner g (os ++ [(onR fin r).1]) ss (onR fin r).2
      else inR inner g os (ss ++ [(inner r).1]) (inner r).2
    else ((os, ss), r)
/-- A state, k below the deepest that may be: at 0 all is refused. -/
def stR : (k : Nat) → RsC → St (k + 1) × RsC
  | 0, r => (((([], (0, 0)), (false, false), ([], []), (0, 0), []), []), failC (if isC wState r = true then 13 else 12) (hereR fin r) r)
  | k + 1, r =>
    let a := nameR fin (takeR fin wState r)
    let b := kindR fin (takeR fin [123] a.2)
    let c := inR fin (stR k) (b.2.1.length + 1) [] [] b.2
    (((a.1, b.1.1, b.1.2.1, b.1.2.2, c.1.1), c.1.2), takeR fin [125] c.2)
/-- The variables; g bounds how many. -/
def varsR : Nat → List (List UInt8 × Int × Pl) → RsC → List (List UInt8 × Int × Pl) × RsC
  | 0, acc, r => (acc, r)
  | g + 1, acc, r => if isC wVar r = true then
      let a := nameR fin (takeR fin wVar r)
      let b := takeR fin [61] a.2
      let n := if isC [45] b = true then (fun x => (-x.1, x.2)) (numR fin (takeR fin [45] b)) else numR fin b
      varsR g (acc ++ [(a.1.1, n.1, a.1.2)]) n.2
    else (acc, r)
def stsR : Nat → List (St 7) → RsC → List (St 7) × RsC
  | 0, acc, r => (acc, r)
  | g + 1, acc, r => if r.2.2 = 0 ∧ isC [125] r = false then stsR g (acc ++ [(stR fin 6 r).1]) (stR fin 6 r).2 else (acc, r)
end
/-- A chart: name, place, version, variables, states. -/
abbrev ChC := (List UInt8 × Pl) × Int × List (List UInt8 × Int × Pl) × List (St 7)
def noC : ChC := (([], (0, 0)), 0, [], [])
/-- The chart of words, or an error at a place. -/
def chR (fin : Pl) (ws : List Wd) : ChC × Pl × Int :=
  let a := nameR fin (takeR fin wChart (ws, (0, 0), 0))
  let n := numR fin a.2
  let b := takeR fin [123] n.2
  let v := varsR fin (b.1.length + 1) [] b
  let s := stsR fin (v.2.1.length + 1) [] v.2
  let e := takeR fin [125] s.2
  let z := if e.2.2 = 0 ∧ e.1 ≠ [] then failC 12 (hereR fin e) e else e
  if z.2.2 = 0 then ((a.1, n.1, v.1, s.1), (0, 0), 0) else (noC, z.2.1, z.2.2)
/-- The place behind a text. -/
def endP : List Ru → Int → Int → Pl
  | [], ln, co => (ln, co)
  | u :: r, ln, co => if u.1 = 10 then endP r (ln + 1) 1 else endP r ln (co + 1)
/-- The chart of a text. -/
def readC (s : List UInt8) : ChC × Pl × Int :=
  if (wordsS s).2.2 ≠ 0 then (noC, (wordsS s).2.1, (wordsS s).2.2) else chR (endP (runes s) 1 1) (wordsS s).1

/-- Reading takes words away, or has an error. -/
theorem failC_len (e : Int) (p : Pl) (r : RsC) : (failC e p r).1 = r.1 := by unfold failC; split <;> rfl
theorem failC_bad {e : Int} (he : e ≠ 0) (p : Pl) (r : RsC) : (failC e p r).2.2 ≠ 0 := by
  unfold failC
  split
  · exact he
  · rename_i h; exact h
theorem takeR_len (fin : Pl) (s : List UInt8) (r : RsC) : (takeR fin s r).1.length ≤ r.1.length := by
  unfold takeR
  split
  · rw [List.length_tail]; omega
  · rw [failC_len]; exact Nat.le_refl _
theorem takeR_less (fin : Pl) {s : List UInt8} {r : RsC} (h : isC s r = true) : (takeR fin s r).1.length < r.1.length := by
  unfold takeR
  rw [if_pos h]
  unfold isC at h
  cases hr : r.1 with
  | nil => rw [hr] at h; simp at h
  | cons w l => simp
theorem nameR_len (fin : Pl) (r : RsC) : (nameR fin r).2.1.length ≤ r.1.length := by
  unfold nameR
  cases hr : r.1 with
  | nil => simp only [failC_len, hr]; exact Nat.le_refl _
  | cons w l =>
    simp only
    split
    · simp
    · simp only [failC_len, hr]; exact Nat.le_refl _
theorem numR_len (fin : Pl) (r : RsC) : (numR fin r).2.1.length ≤ r.1.length := by
  unfold numR
  cases hr : r.1 with
  | nil => simp only [failC_len, hr]; exact Nat.le_refl _
  | cons w l =>
    simp only
    split
    · simp
    · simp only [failC_len, hr]; exact Nat.le_refl _
theorem exprR_len (fin : Pl) (r : RsC) : (exprR fin r).2.1.length ≤ r.1.length := by
  unfold exprR
  split
  · exact Nat.le_refl _
  · split
    · simp
    · split
      · simp only [failC_len]; exact Nat.le_refl _
      · simp only [failC_len, List.length_drop]; omega
end Go.Proofs.YtccmmkhcacglhaaGreatDoor

/- The number that digits spell, as strconv.Atoi tells it; what kinds of words tell. Math alone. -/
namespace Go.Proofs.YtccmmkhcacglhaaGreatDoor
open Go.RowKit Go.Lib
set_option linter.unusedSimpArgs false
set_option linter.unusedVariables false

theorem atoiM : ∀ (l : List UInt8) (acc : Nat), l.all dB = true → valB (acc : Int) l ≤ 1000000000 → parseUint10 acc l = .ok (valB (acc : Int) l).toNat
  | [], acc, _, _ => by
    show NumEnd.ok acc = .ok ((acc : Int)).toNat
    rw [Int.toNat_natCast]
  | c :: r, acc, h, hb => by
    simp only [List.all_cons, Bool.and_eq_true] at h
    have hd : 48 ≤ c.toNat ∧ c.toNat ≤ 57 := of_decide_eq_true h.1
    have e : valB (acc : Int) (c :: r) = valB ((acc * 10 + (c.toNat - 48) : Nat) : Int) r := by
      show valB (10 * (acc : Int) + ((c.toNat : Int) - 48)) r = _
      congr 1
      omega
    rw [e] at hb ⊢
    have hg := valB_ge r ((acc * 10 + (c.toNat - 48) : Nat) : Int) (by omega) h.2
    rw [parseUint10, if_pos hd, if_neg (by omega), if_neg (by omega)]
    exact atoiM r _ h.2 hb
theorem atoi_num {b : List UInt8} (h : numB b = true) : atoiAll b = .ok (valB 0 b) := by
  obtain ⟨h1, h2, h3⟩ := num_len h
  have hall : b.all dB = true := by
    unfold numB at h
    simp only [Bool.and_eq_true] at h
    simp_all
  have hle : valB 0 b ≤ 1000000000 := by
    unfold numB at h
    simp only [Bool.and_eq_true, decide_eq_true_eq] at h
    exact h.2
  cases b with
  | nil => revert h; decide
  | cons c r =>
    have hd : 48 ≤ c.toNat ∧ c.toNat ≤ 57 := by
      simp only [List.all_cons, Bool.and_eq_true] at hall
      exact of_decide_eq_true hall.1
    have hm : parseMag (c :: r) = .ok (valB 0 (c :: r)).toNat := by
      unfold parseMag
      rw [if_neg (by simp)]
      exact atoiM (c :: r) 0 hall hle
    have hg := valB_ge (c :: r) 0 (by omega) hall
    unfold atoiAll
    simp only
    rw [if_neg (show ¬ (c.toNat = 43 ∨ c.toNat = 45) by omega), hm]
    simp only
    rw [if_neg (by omega), if_neg (by omega), if_neg (by omega)]
    congr 1
    omega
theorem num_small {b : List UInt8} (h : numB b = true) : 0 ≤ valB 0 b ∧ valB 0 b ≤ 1000000000 := by
  have hall : b.all dB = true := by
    unfold numB at h
    simp only [Bool.and_eq_true] at h
    simp_all
  refine ⟨valB_ge b 0 (by omega) hall, ?_⟩
  unfold numB at h
  simp only [Bool.and_eq_true, decide_eq_true_eq] at h
  exact h.2
theorem nx_dig {c : UInt8} {r : List UInt8} (h : 48 ≤ c.toNat ∧ c.toNat ≤ 57) : (nx (c :: r)).1 = (c.toNat : Int) := by
  obtain ⟨t, _, h2, _⟩ := head_small c r
  exact (h2 (by omega)).2
/-- A name is no number, and no sign. -/
theorem name_num {b : List UInt8} (h : nameS b = true) : numB b = false := by
  cases b with
  | nil => rfl
  | cons c r =>
    unfold nameS at h
    simp only [Bool.and_eq_true] at h
    have hl := h.1.1
    cases hn : numB (c :: r) with
    | false => rfl
    | true =>
      have hall : (c :: r).all dB = true := by
        unfold numB at hn
        simp only [Bool.and_eq_true] at hn
        simp_all
      simp only [List.all_cons, Bool.and_eq_true] at hall
      have hd : 48 ≤ c.toNat ∧ c.toNat ≤ 57 := of_decide_eq_true hall.1
      rw [nx_dig hd, letter_eq] at hl
      simp only [Bool.or_eq_true, Bool.and_eq_true, decide_eq_true_eq] at hl
      omega
theorem seg_head {K : Nat} {seg : List Ru} (h : OneW K seg) {v : Ru} {t : List Ru} (e : seg = v :: t) : (nx (byt seg)).1 = v.1 := by
  have hr := h.runes
  have hb : byt seg ≠ [] := by
    intro e2
    rw [e2] at hr
    rw [← hr] at e
    cases e
  have := runes_cons hb
  rw [hr] at this
  have h2 := e.symm.trans this
  injection h2 with h3 h4
  exact (congrArg Prod.fst h3).symm
/-- A word is of kind 1 just if it is a name. -/
theorem kind_name {K : Nat} {seg : List Ru} (h : OneW K seg) : K = 1 ↔ nameS (byt seg) = true := by
  rcases h.kind with ⟨k, n⟩ | ⟨k, n⟩ | ⟨k, v, t, e, l, d⟩
  · exact ⟨fun _ => n, fun _ => k⟩
  · constructor
    · intro h1; omega
    · intro h1; rw [name_num h1] at n; cases n
  · constructor
    · intro h1; omega
    · intro h1
      unfold nameS at h1
      simp only [Bool.and_eq_true] at h1
      rw [seg_head h e, l] at h1
      exact absurd h1.1.1 (by decide)
/-- A number is not reserved. -/
theorem rsv_num {b : List UInt8} (h : numB b = true) : rsvB b = false := by
  cases hr : rsvB b with
  | false => rfl
  | true =>
    have hall : rsv13.all (fun x => !numB x) = true := by decide
    unfold rsvB at hr
    obtain ⟨x, hx, hb⟩ := List.any_eq_true.1 hr
    have h1 := List.all_eq_true.1 hall x hx
    have h2 : b = x := by simpa using hb
    subst h2
    rw [h] at h1
    exact absurd h1 (by decide)
end Go.Proofs.YtccmmkhcacglhaaGreatDoor

/- Reading a chart takes words away, or has an error. Math alone. -/
namespace Go.Proofs.YtccmmkhcacglhaaGreatDoor
open Go.RowKit Go.Lib
set_option linter.unusedVariables false
/-- No words more; without an error behind it there was none ahead. -/
def Goes (r r' : RsC) : Prop := r'.1.length ≤ r.1.length ∧ (r'.2.2 = 0 → r.2.2 = 0)
theorem Goes.refl (r : RsC) : Goes r r := ⟨Nat.le_refl _, id⟩
theorem Goes.trans {a b c : RsC} (h : Goes a b) (k : Goes b c) : Goes a c := ⟨Nat.le_trans k.1 h.1, fun e => h.2 (k.2 e)⟩
theorem goes_fail (e : Int) (p : Pl) (r : RsC) : Goes r (failC e p r) := by
  refine ⟨by rw [failC_len]; exact Nat.le_refl _, fun h => ?_⟩
  unfold failC at h
  split at h
  · assumption
  · exact h
theorem isC_ok {s : List UInt8} {r : RsC} (h : isC s r = true) : r.2.2 = 0 := by
  unfold isC at h
  simp only [Bool.and_eq_true, decide_eq_true_eq] at h
  exact h.1
theorem goes_take (fin : Pl) (s : List UInt8) (r : RsC) : Goes r (takeR fin s r) := by
  by_cases h : isC s r = true
  · exact ⟨takeR_len fin s r, fun _ => isC_ok h⟩
  · unfold takeR; rw [if_neg h]; exact goes_fail _ _ _
theorem take_ok {fin : Pl} {s : List UInt8} {r : RsC} (h : (takeR fin s r).2.2 = 0) : isC s r = true := by
  by_cases hi : isC s r = true
  · exact hi
  · unfold takeR at h
    rw [if_neg hi] at h
    exact absurd h (failC_bad (by decide) _ _)
theorem goes_name (fin : Pl) (r : RsC) : Goes r (nameR fin r).2 := by
  refine ⟨nameR_len fin r, ?_⟩
  unfold nameR
  cases hr : r.1 with
  | nil => exact (goes_fail _ _ _).2
  | cons w l =>
    simp only
    split
    · rename_i h; exact fun _ => h.1
    · exact (goes_fail _ _ _).2
theorem goes_num (fin : Pl) (r : RsC) : Goes r (numR fin r).2 := by
  refine ⟨numR_len fin r, ?_⟩
  unfold numR
  cases hr : r.1 with
  | nil => exact (goes_fail _ _ _).2
  | cons w l =>
    simp only
    split
    · rename_i h; exact fun _ => h.1
    · exact (goes_fail _ _ _).2
theorem goes_expr (fin : Pl) (r : RsC) : Goes r (exprR fin r).2 := by
  refine ⟨exprR_len fin r, ?_⟩
  unfold exprR
  split
  · exact id
  · rename_i h
    exact fun _ => by simpa using h
theorem goes_sets (fin : Pl) : ∀ (g : Nat) (acc : List (List UInt8 × Sx)) (r : RsC), Goes r (setsR fin g acc r).2
  | 0, acc, r => Goes.refl r
  | g + 1, acc, r => by
    unfold setsR
    split
    · exact ((goes_take fin wSet r).trans ((goes_name fin _).trans ((goes_take fin [61] _).trans (goes_expr fin _)))).trans (goes_sets fin g _ _)
    · exact Goes.refl r
/-- Behind the word on. -/
theorem goes_on1 (fin : Pl) (r : RsC) : Goes (takeR fin wOn r) (onR fin r).2 := by
  have h1 : Goes (takeR fin wOn r) (nameR fin (takeR fin wOn r)).2 := goes_name fin _
  have h2 : Goes (nameR fin (takeR fin wOn r)).2 (if isC wIf (nameR fin (takeR fin wOn r)).2 = true then ((fun x => ((true, x.1), x.2)) (exprR fin (takeR fin wIf (nameR fin (takeR fin wOn r)).2)) : (Bool × Sx) × RsC) else ((false, noX), (nameR fin (takeR fin wOn r)).2)).2 := by
    split
    · exact (goes_take fin wIf _).trans (goes_expr fin _)
    · exact Goes.refl _
  exact h1.trans (h2.trans ((goes_take fin wGo _).trans ((goes_name fin _).trans (goes_sets fin _ _ _))))
theorem goes_on (fin : Pl) (r : RsC) : Goes r (onR fin r).2 := (goes_take fin wOn r).trans (goes_on1 fin r)
theorem on_less {fin : Pl} {r : RsC} (h : isC wOn r = true) : (onR fin r).2.1.length < r.1.length := Nat.lt_of_le_of_lt (goes_on1 fin r).1 (takeR_less fin h)
theorem goes_kind (fin : Pl) (r : RsC) : Goes r (kindR fin r).2 := by
  unfold kindR
  split
  · exact goes_take fin _ r
  · split
    · exact goes_take fin _ r
    · split
      · exact (goes_take fin wDo r).trans ((goes_name fin _).trans ((goes_take fin wUndo _).trans ((goes_name fin _).trans ((goes_take fin wAt _).trans ((goes_num fin _).trans ((goes_take fin wRetries _).trans (goes_num fin _)))))))
      · exact Goes.refl r
theorem goes_in {α : Type} (fin : Pl) (inner : RsC → α × RsC) (hi : ∀ r, Goes r (inner r).2) : ∀ (g : Nat) (os : List OnC) (ss : List α) (r : RsC), Goes r (inR fin inner g os ss r).2
  | 0, os, ss, r => Goes.refl r
  | g + 1, os, ss, r => by
    unfold inR
    split
    · split
      · exact (goes_on fin r).trans (goes_in fin inner hi g _ _ _)
      · exact (hi r).trans (goes_in fin inner hi g _ _ _)
    · exact Goes.refl r
/-- Behind the word state. -/
theorem goes_st : ∀ (fin : Pl) (k : Nat) (r : RsC), Goes r (stR fin k r).2 ∧ ((stR fin k r).2.2.2 = 0 → (stR fin k r).2.1.length < r.1.length)
  | fin, 0, r => by
    refine ⟨goes_fail _ _ r, fun h => ?_⟩
    refine absurd h (failC_bad ?_ _ r)
    split <;> decide
  | fin, k + 1, r => by
    have h1 : Goes (takeR fin wState r) (stR fin (k + 1) r).2 :=
      (goes_name fin _).trans ((goes_take fin [123] _).trans ((goes_kind fin _).trans ((goes_in fin (stR fin k) (fun r => (goes_st fin k r).1) _ _ _ _).trans (goes_take fin [125] _))))
    exact ⟨(goes_take fin wState r).trans h1, fun h => Nat.lt_of_le_of_lt h1.1 (takeR_less fin (take_ok (h1.2 h)))⟩
theorem goes_vars (fin : Pl) : ∀ (g : Nat) (acc : List (List UInt8 × Int × Pl)) (r : RsC), Goes r (varsR fin g acc r).2
  | 0, acc, r => Goes.refl r
  | g + 1, acc, r => by
    unfold varsR
    split
    · refine Goes.trans ((goes_take fin wVar r).trans ((goes_name fin _).trans (goes_take fin [61] _))) (Goes.trans ?_ (goes_vars fin g _ _))
      split
      · exact (goes_take fin [45] _).trans (goes_num fin _)
      · exact goes_num fin _
    · exact Goes.refl r
end Go.Proofs.YtccmmkhcacglhaaGreatDoor

/- How the program reads a chart of words: it stops where the document's reader goes on with an error; the answers are the same. Math alone. -/
namespace Go.Proofs.YtccmmkhcacglhaaGreatDoor
open Go.RowKit Go.Lib
set_option linter.unusedVariables false
section
variable (fin : Pl)
/-- The ons and states within a state, as the program reads them. -/
def inP {α : Type} (inner : RsC → α × RsC) : Nat → List OnC → List α → RsC → (List OnC × List α) × RsC
  | 0, os, ss, r => ((os, ss), r)
  | g + 1, os, ss, r => if isC wOn r = true then inP inner g (os ++ [(onR fin r).1]) ss (onR fin r).2
    else if isC wState r = true then inP inner g os (ss ++ [(inner r).1]) (inner r).2
    else ((os, ss), r)
def zHd : HdC := (([], (0, 0)), (false, false), ([], []), (0, 0), [])
/-- A state, k below the deepest that may be. -/
def stP : (k : Nat) → RsC → St (k + 1) × RsC
  | 0, r => ((zHd, []), failC 13 (hereR fin r) r)
  | k + 1, r =>
    let a := nameR fin (takeR fin wState r)
    let b := kindR fin (takeR fin [123] a.2)
    let c := inP fin (stP k) (b.2.1.length + 1) [] [] b.2
    (((a.1, b.1.1, b.1.2.1, b.1.2.2, c.1.1), c.1.2), takeR fin [125] c.2)
def stsP : Nat → List (St 7) → RsC → List (St 7) × RsC
  | 0, acc, r => (acc, r)
  | g + 1, acc, r => if isC wState r = true then stsP g (acc ++ [(stP fin 6 r).1]) (stP fin 6 r).2 else (acc, r)
end
/-- Behind an error nothing is read. -/
theorem is_err {r : RsC} (h : r.2.2 ≠ 0) (s : List UInt8) : isC s r = false := by unfold isC; rw [decide_eq_false h]; rfl
theorem fail_err {r : RsC} (h : r.2.2 ≠ 0) (e : Int) (p : Pl) : failC e p r = r := by unfold failC; rw [if_neg h]
theorem take_err {r : RsC} (h : r.2.2 ≠ 0) (fin : Pl) (s : List UInt8) : takeR fin s r = r := by
  unfold takeR
  rw [is_err h, if_neg (by decide), fail_err h]
theorem name_err {r : RsC} (h : r.2.2 ≠ 0) (fin : Pl) : nameR fin r = (([], (0, 0)), r) := by
  unfold nameR
  cases hr : r.1 with
  | nil => simp only; rw [fail_err h]
  | cons w l => simp only; rw [if_neg (fun e => h e.1), fail_err h]
theorem kind_err {r : RsC} (h : r.2.2 ≠ 0) (fin : Pl) : kindR fin r = (((false, false), ([], []), (0, 0)), r) := by
  unfold kindR
  rw [is_err h, is_err h, is_err h, if_neg (by decide), if_neg (by decide), if_neg (by decide)]
theorem in_err {α : Type} {r : RsC} (h : r.2.2 ≠ 0) (fin : Pl) (inner : RsC → α × RsC) : ∀ (g : Nat) (os : List OnC) (ss : List α), inR fin inner g os ss r = ((os, ss), r)
  | 0, os, ss => rfl
  | g + 1, os, ss => by unfold inR; rw [if_neg (fun e => h e.1)]
theorem inP_err {α : Type} {r : RsC} (h : r.2.2 ≠ 0) (fin : Pl) (inner : RsC → α × RsC) : ∀ (g : Nat) (os : List OnC) (ss : List α), inP fin inner g os ss r = ((os, ss), r)
  | 0, os, ss => rfl
  | g + 1, os, ss => by unfold inP; rw [is_err h, is_err h, if_neg (by decide), if_neg (by decide)]
theorem sts_err {r : RsC} (h : r.2.2 ≠ 0) (fin : Pl) : ∀ (g : Nat) (acc : List (St 7)), stsR fin g acc r = (acc, r)
  | 0, acc => rfl
  | g + 1, acc => by unfold stsR; rw [if_neg (fun e => h e.1)]
theorem stsP_err {r : RsC} (h : r.2.2 ≠ 0) (fin : Pl) : ∀ (g : Nat) (acc : List (St 7)), stsP fin g acc r = (acc, r)
  | 0, acc => rfl
  | g + 1, acc => by unfold stsP; rw [is_err h, if_neg (by decide)]
theorem take_not {r : RsC} {fin : Pl} {s : List UInt8} (h : isC s r = false) : takeR fin s r = failC 12 (hereR fin r) r := by
  unfold takeR; rw [h, if_neg (by decide)]
/-- Where no state begins the document's reader of states has an error. -/
theorem st_not {r : RsC} (fin : Pl) (h0 : r.2.2 = 0) (h : isC wState r = false) : ∀ k, (stR fin k r).2 = failC 12 (hereR fin r) r
  | 0 => by unfold stR; rw [h, if_neg (by decide)]
  | k + 1 => by
    have e : (failC 12 (hereR fin r) r).2.2 ≠ 0 := failC_bad (by decide) _ _
    unfold stR
    simp only [take_not h]
    rw [name_err e]
    simp only
    rw [take_err e, kind_err e]
    simp only
    rw [in_err e, take_err e]
theorem is_one {r : RsC} {s t : List UInt8} (h : isC s r = true) (hne : s ≠ t) : isC t r = false := by
  unfold isC at h ⊢
  cases hr : r.1 with
  | nil => rw [hr] at h; simp at h
  | cons w l =>
    rw [hr] at h
    simp only [Bool.and_eq_true, decide_eq_true_eq] at h
    simp only [h.2, decide_eq_false hne, Bool.and_false]
theorem in_eq {α : Type} (fin : Pl) (i1 i2 : RsC → α × RsC) (hi : ∀ r, isC wState r = true → (i2 r).2 = (i1 r).2 ∧ ((i1 r).2.2.2 = 0 → (i2 r).1 = (i1 r).1)) (hn : ∀ r : RsC, r.2.2 = 0 → isC wState r = false → (i1 r).2 = failC 12 (hereR fin r) r) :
    ∀ (g : Nat) (os : List OnC) (ss : List α) (r : RsC), takeR fin [125] (inP fin i2 g os ss r).2 = takeR fin [125] (inR fin i1 g os ss r).2 ∧ ((takeR fin [125] (inR fin i1 g os ss r).2).2.2 = 0 → (inP fin i2 g os ss r).1 = (inR fin i1 g os ss r).1)
  | 0, os, ss, r => ⟨rfl, fun _ => rfl⟩
  | g + 1, os, ss, r => by
    by_cases hz : r.2.2 ≠ 0
    · have h0 := hz
      rw [in_err h0, inP_err h0]; exact ⟨rfl, fun _ => rfl⟩
    have h0 : r.2.2 = 0 := Decidable.not_not.1 hz
    unfold inP inR
    by_cases h1 : isC [125] r = true
    · rw [is_one h1 (t := wOn) (by decide), is_one h1 (t := wState) (by decide), if_neg (by decide), if_neg (by decide), if_neg (by rw [h1]; simp)]
      exact ⟨rfl, fun _ => rfl⟩
    have h1' : isC [125] r = false := by simpa using h1
    rw [if_pos (⟨h0, h1'⟩ : r.2.2 = 0 ∧ isC [125] r = false)]
    by_cases h2 : isC wOn r = true
    · rw [if_pos h2, if_pos h2]
      exact in_eq fin i1 i2 hi hn g _ _ _
    rw [if_neg h2, if_neg h2]
    by_cases h3 : isC wState r = true
    · rw [if_pos h3]
      obtain ⟨e1, e2⟩ := hi r h3
      rw [e1]
      by_cases h4 : (i1 r).2.2.2 = 0
      · rw [e2 h4]
        exact in_eq fin i1 i2 hi hn g _ _ _
      · rw [in_err h4, inP_err h4]
        refine ⟨rfl, fun h => ?_⟩
        rw [take_err h4] at h
        exact absurd h h4
    · rw [if_neg h3]
      have h3' : isC wState r = false := by simpa using h3
      have e := hn r h0 h3'
      have eb : (failC 12 (hereR fin r) r).2.2 ≠ 0 := failC_bad (by decide) _ _
      rw [e, in_err eb, take_err eb]
      refine ⟨by rw [take_not h1'], fun h => absurd h eb⟩
theorem st_eq (fin : Pl) : ∀ (k : Nat) (r : RsC), isC wState r = true → (stP fin k r).2 = (stR fin k r).2 ∧ ((stR fin k r).2.2.2 = 0 → (stP fin k r).1 = (stR fin k r).1)
  | 0, r, h => by
    unfold stP stR
    rw [h, if_pos rfl]
    exact ⟨rfl, fun _ => rfl⟩
  | k + 1, r, h => by
    have hin := in_eq fin (stR fin k) (stP fin k) (fun r h => st_eq fin k r h) (fun r h0 h => st_not fin h0 h k) ((kindR fin (takeR fin [123] (nameR fin (takeR fin wState r)).2)).2.1.length + 1) [] [] (kindR fin (takeR fin [123] (nameR fin (takeR fin wState r)).2)).2
    unfold stP stR
    simp only
    refine ⟨hin.1, fun h0 => ?_⟩
    have e := hin.2 h0
    rw [e]
theorem sts_eq (fin : Pl) : ∀ (g : Nat) (acc : List (St 7)) (r : RsC), takeR fin [125] (stsP fin g acc r).2 = takeR fin [125] (stsR fin g acc r).2 ∧ ((takeR fin [125] (stsR fin g acc r).2).2.2 = 0 → (stsP fin g acc r).1 = (stsR fin g acc r).1)
  | 0, acc, r => ⟨rfl, fun _ => rfl⟩
  | g + 1, acc, r => by
    by_cases hz : r.2.2 ≠ 0
    · have h0 := hz
      rw [sts_err h0, stsP_err h0]; exact ⟨rfl, fun _ => rfl⟩
    have h0 : r.2.2 = 0 := Decidable.not_not.1 hz
    unfold stsP stsR
    by_cases h1 : isC [125] r = true
    · rw [is_one h1 (t := wState) (by decide), if_neg (by decide), if_neg (by rw [h1]; simp)]
      exact ⟨rfl, fun _ => rfl⟩
    have h1' : isC [125] r = false := by simpa using h1
    rw [if_pos (⟨h0, h1'⟩ : r.2.2 = 0 ∧ isC [125] r = false)]
    by_cases h3 : isC wState r = true
    · rw [if_pos h3]
      obtain ⟨e1, e2⟩ := st_eq fin 6 r h3
      rw [e1]
      by_cases h4 : (stR fin 6 r).2.2.2 = 0
      · rw [e2 h4]
        exact sts_eq fin g _ _
      · rw [sts_err h4, stsP_err h4]
        refine ⟨rfl, fun h => ?_⟩
        rw [take_err h4] at h
        exact absurd h h4
    · rw [if_neg h3]
      have h3' : isC wState r = false := by simpa using h3
      have e := st_not fin h0 h3' 6
      have eb : (failC 12 (hereR fin r) r).2.2 ≠ 0 := failC_bad (by decide) _ _
      rw [e, sts_err eb, take_err eb]
      refine ⟨by rw [take_not h1'], fun h => absurd h eb⟩
/-- What the reader tells behind the chart's last word. -/
def lastR (fin : Pl) (e : RsC) : RsC := if e.2.2 = 0 ∧ e.1 ≠ [] then failC 12 (hereR fin e) e else e
theorem last_ok {fin : Pl} {e : RsC} (h : (lastR fin e).2.2 = 0) : e.2.2 = 0 := by
  unfold lastR at h
  by_cases hc : e.2.2 = 0 ∧ e.1 ≠ []
  · exact hc.1
  · rw [if_neg hc] at h; exact h
/-- The chart of words, as the program reads it. -/
def chP (fin : Pl) (ws : List Wd) : ChC × RsC :=
  let a := nameR fin (takeR fin wChart (ws, (0, 0), 0))
  let n := numR fin a.2
  let b := takeR fin [123] n.2
  let v := varsR fin (b.1.length + 1) [] b
  let s := stsP fin (v.2.1.length + 1) [] v.2
  ((a.1, n.1, v.1, s.1), takeR fin [125] s.2)
def chZ (fin : Pl) (x : ChC × RsC) : ChC × Pl × Int := if (lastR fin x.2).2.2 = 0 then (x.1, (0, 0), 0) else (noC, (lastR fin x.2).2.1, (lastR fin x.2).2.2)
theorem ch_eq (fin : Pl) (ws : List Wd) : chR fin ws = chZ fin (chP fin ws) := by
  unfold chR chZ chP
  simp only
  generalize nameR fin (takeR fin wChart (ws, (0, 0), 0)) = A
  generalize numR fin A.2 = N
  generalize varsR fin ((takeR fin [123] N.2).1.length + 1) [] (takeR fin [123] N.2) = V
  obtain ⟨e1, e2⟩ := sts_eq fin (V.2.1.length + 1) [] V.2
  rw [e1]
  show (if (lastR fin (takeR fin [125] (stsR fin (V.2.1.length + 1) [] V.2).2)).2.2 = 0 then _ else (noC, (lastR fin (takeR fin [125] (stsR fin (V.2.1.length + 1) [] V.2).2)).2.1, (lastR fin (takeR fin [125] (stsR fin (V.2.1.length + 1) [] V.2).2)).2.2)) = _
  by_cases h : (lastR fin (takeR fin [125] (stsR fin (V.2.1.length + 1) [] V.2).2)).2.2 = 0
  · rw [if_pos h, if_pos h, e2 (last_ok h)]
  · rw [if_neg h, if_neg h]
theorem goesP_st (fin : Pl) (k : Nat) {r : RsC} (h : isC wState r = true) : Goes r (stP fin k r).2 ∧ ((stP fin k r).2.2.2 = 0 → (stP fin k r).2.1.length < r.1.length) := by
  rw [(st_eq fin k r h).1]
  exact goes_st fin k r
end Go.Proofs.YtccmmkhcacglhaaGreatDoor

/- The decoder of runes at this program, and the two tables that it reads. -/
namespace Go.Proofs.YtccmmkhcacglhaaGreatDoor
open Go.Shelf Go.RowKit
set_option linter.unusedVariables false

def renU : Ren := { f := fun x => match x with | 197 => 115 | 260 => 149 | n => n, t := fun x => match x with | 9 => 9 | 21 => 21 | 3 => 3 | 4 => 4 | 5 => 5 | 105 => 123 | 119 => 237 | 0 => 0 | 46 => 225 | 139 => 240 | 138 => 239 | n => n, g := fun x => match x with | 3 => 1 | 4 => 2 | n => n }
theorem laysU : Lays.n197 Tryz.prog renU :=
  { mixed := by kernel_rfl, f197 := Tryz.func115.trans (congrArg some (by kernel_rfl)), f260 := Tryz.func149.trans (congrArg some (by kernel_rfl)), t0 := Tryz.underlying0, a0 := Tryz.isAgg0, z0 := Tryz.sizeOf0, v0 := Tryz.zeroValue0, t3 := Tryz.underlying3, a3 := Tryz.isAgg3, z3 := Tryz.sizeOf3, v3 := Tryz.zeroValue3, t4 := Tryz.underlying4, a4 := Tryz.isAgg4, z4 := Tryz.sizeOf4, v4 := Tryz.zeroValue4, t5 := Tryz.underlying5, a5 := Tryz.isAgg5, z5 := Tryz.sizeOf5, v5 := Tryz.zeroValue5, t9 := Tryz.underlying9, a9 := Tryz.isAgg9, z9 := Tryz.sizeOf9, v9 := Tryz.zeroValue9, t21 := Tryz.underlying21, a21 := Tryz.isAgg21, z21 := Tryz.sizeOf21, v21 := Tryz.zeroValue21, t46 := Tryz.underlying225, a46 := Tryz.isAgg225, z46 := Tryz.sizeOf225, v46 := Tryz.zeroValue225, t105 := Tryz.underlying123, a105 := Tryz.isAgg123, z105 := Tryz.sizeOf123, v105 := Tryz.zeroValue123, t119 := Tryz.underlying237, a119 := Tryz.isAgg237, z119 := Tryz.sizeOf237, t138 := Tryz.underlying239, a138 := Tryz.isAgg239, z138 := Tryz.sizeOf239, v138 := Tryz.zeroValue239, t139 := Tryz.underlying240, a139 := Tryz.isAgg240, z139 := Tryz.sizeOf240, v139 := Tryz.zeroValue240, g3 := by kernel_rfl, g4 := by kernel_rfl }
/-- The tables' cells. -/
def Tabs (w : World) : Prop := Lib.Utf8Tabs 1 2 w
theorem Tabs.below {w w' : World} {B : Nat} (h : Tabs w) (hb : Below B w w') (hB : w.heap.size ≤ B) : Tabs w' := by
  have k : ∀ {p : Addr} {v : Value}, w.cell? p = some v → w'.cell? p = some v := fun {p v} hc => by
    have hlt := World.block_lt_of_cell? w _ hc
    rw [hb.cell (by omega)]
    exact hc
  exact ⟨fun c hc => k (h.1 c hc), fun i hi => ⟨k (h.2 i hi).1, k (h.2 i hi).2⟩⟩
theorem decode_any (s : ByteArray) (w : World) (hT : Tabs w) :
    Calls Tryz.prog 115 #[.string s] w fun e w' => e = .returned (.tuple #[.int .i32 (Lib.decodeGo s).1, .int .i64 (Lib.decodeGo s).2]) ∧ Below w.heap.size w w' :=
  Any.utf8_DecodeRuneInString laysU s w hT
theorem extraU : U8Extra Tryz.prog renU := { n3 := by kernel_rfl, n4 := by kernel_rfl, y3 := by kernel_rfl, y4 := by kernel_rfl, c5 := by kernel_rfl, c119 := by kernel_rfl, c138 := by kernel_rfl }
theorem tabs_of {w : World} {n3 n4 : String} {L : List (String × DataW Unit)} (h : laidMetH Tryz.prog L w) (hp : (L.all fun x => x.2.handleName?.isNone) = true) (m4 : (n4, Rows.laid_unicode_utf8_acceptRanges) ∈ L) (m3 : (n3, Rows.laid_unicode_utf8_first) ∈ L)
    (e3' : Lib.VarReads Tryz.prog w n3 Lib.firstData → Lib.VarReads Tryz.prog w n4 Lib.acceptData → Lib.Utf8Tabs (renU.g 3) (renU.g 4) w) : Tabs w := by
  rw [MakeChecks.laidMetH_plain _ _ _ hp] at h
  have h4 := Lib.laidMet.reads h (n := n4) (d := Rows.laid_unicode_utf8_acceptRanges) m4
  have h3 := Lib.laidMet.reads h (n := n3) (d := Rows.laid_unicode_utf8_first) m3
  have d4 : (Rows.laid_unicode_utf8_acceptRanges : DataW Unit) = Lib.acceptData := by kernel_rfl
  have d3 : Rows.laid_unicode_utf8_first = Lib.firstData := Pinned.utf8First_eq
  rw [d4] at h4
  rw [d3] at h3
  exact e3' h3 h4
end Go.Proofs.YtccmmkhcacglhaaGreatDoor

/- What the program's levelOf and Reserved do. -/
namespace Go.Proofs.YtccmmkhcacglhaaGreatDoor
open Go.RowKit Go.Lib
set_option linter.unusedSimpArgs false
set_option linter.unusedVariables false
attribute [local go_sem ↓] Go.wp_at_zero Go.wp_at_succ

set_option maxRecDepth 100000 in
set_option maxHeartbeats 2000000 in
theorem pLevel_any (s : ByteArray) (w : World) : Calls Tryz.prog 220 #[.string s] w fun e w' => e = .returned (.int .i64 (lv (bl s) : Int)) ∧ w = w' := by
  have hS : ∀ x, (s.toList == x) = (bl s == x) := fun x => by rw [ByteArray.toList_eq]
  obtain ⟨l, hl⟩ : ∃ l, bl s = l := ⟨_, rfl⟩
  rw [hl]
  simp only [hl] at hS
  clear hl
  have q0 : (s.toList == [124, 124]) = (l == [124, 124]) := hS _
  have q1 : (s.toList == [38, 38]) = (l == [38, 38]) := hS _
  have q2 : (s.toList == [60]) = (l == [60]) := hS _
  have q3 : (s.toList == [60, 61]) = (l == [60, 61]) := hS _
  have q4 : (s.toList == [61, 61]) = (l == [61, 61]) := hS _
  have q5 : (s.toList == [33, 61]) = (l == [33, 61]) := hS _
  have q6 : (s.toList == [43]) = (l == [43]) := hS _
  have q7 : (s.toList == [45]) = (l == [45]) := hS _
  have q8 : (s.toList == [42]) = (l == [42]) := hS _
  clear hS
  cases r0 : (l == [124, 124])
  case true => rw [r0] at q0; clear q1 q2 q3 q4 q5 q6 q7 q8; go_enter Tryz.func220, Tryz.ntmps220; go_wp2; go_ret; exact ⟨by rw [eq_of_beq r0]; rfl, rfl⟩
  rw [r0] at q0
  cases r1 : (l == [38, 38])
  case true => rw [r1] at q1; clear q2 q3 q4 q5 q6 q7 q8; go_enter Tryz.func220, Tryz.ntmps220; go_wp2; go_ret; exact ⟨by rw [eq_of_beq r1]; rfl, rfl⟩
  rw [r1] at q1
  cases r2 : (l == [60])
  case true => rw [r2] at q2; clear q3 q4 q5 q6 q7 q8; go_enter Tryz.func220, Tryz.ntmps220; go_wp2; go_ret; exact ⟨by rw [eq_of_beq r2]; rfl, rfl⟩
  rw [r2] at q2
  cases r3 : (l == [60, 61])
  case true => rw [r3] at q3; clear q4 q5 q6 q7 q8; go_enter Tryz.func220, Tryz.ntmps220; go_wp2; go_ret; exact ⟨by rw [eq_of_beq r3]; rfl, rfl⟩
  rw [r3] at q3
  cases r4 : (l == [61, 61])
  case true => rw [r4] at q4; clear q5 q6 q7 q8; go_enter Tryz.func220, Tryz.ntmps220; go_wp2; go_ret; exact ⟨by rw [eq_of_beq r4]; rfl, rfl⟩
  rw [r4] at q4
  cases r5 : (l == [33, 61])
  case true => rw [r5] at q5; clear q6 q7 q8; go_enter Tryz.func220, Tryz.ntmps220; go_wp2; go_ret; exact ⟨by rw [eq_of_beq r5]; rfl, rfl⟩
  rw [r5] at q5
  cases r6 : (l == [43])
  case true => rw [r6] at q6; clear q7 q8; go_enter Tryz.func220, Tryz.ntmps220; go_wp2; go_ret; exact ⟨by rw [eq_of_beq r6]; rfl, rfl⟩
  rw [r6] at q6
  cases r7 : (l == [45])
  case true => rw [r7] at q7; clear q8; go_enter Tryz.func220, Tryz.ntmps220; go_wp2; go_ret; exact ⟨by rw [eq_of_beq r7]; rfl, rfl⟩
  rw [r7] at q7
  cases r8 : (l == [42])
  case true => rw [r8] at q8; go_enter Tryz.func220, Tryz.ntmps220; go_wp2; go_ret; exact ⟨by rw [eq_of_beq r8]; rfl, rfl⟩
  rw [r8] at q8
  go_enter Tryz.func220, Tryz.ntmps220
  go_wp2
  go_ret
  exact ⟨by have e : lv l = 0 := by simp [lv, beq_eq_false_iff_ne.1 r0, beq_eq_false_iff_ne.1 r1, beq_eq_false_iff_ne.1 r2, beq_eq_false_iff_ne.1 r3, beq_eq_false_iff_ne.1 r4, beq_eq_false_iff_ne.1 r5, beq_eq_false_iff_ne.1 r6, beq_eq_false_iff_ne.1 r7, beq_eq_false_iff_ne.1 r8]
            rw [e]; rfl, rfl⟩
set_option maxRecDepth 100000 in
set_option maxHeartbeats 2000000 in
theorem pReserved_any (s : ByteArray) (w : World) : Calls Tryz.prog 96 #[.string s] w fun e w' => e = .returned (.bool (rsvB (bl s))) ∧ w = w' := by
  have hS : ∀ x, (s.toList == x) = (bl s == x) := fun x => by rw [ByteArray.toList_eq]
  obtain ⟨l, hl⟩ : ∃ l, bl s = l := ⟨_, rfl⟩
  rw [hl]
  simp only [hl] at hS
  clear hl
  have q0 : (s.toList == [99, 104, 97, 114, 116]) = (l == [99, 104, 97, 114, 116]) := hS _
  have q1 : (s.toList == [118, 97, 114]) = (l == [118, 97, 114]) := hS _
  have q2 : (s.toList == [115, 116, 97, 116, 101]) = (l == [115, 116, 97, 116, 101]) := hS _
  have q3 : (s.toList == [97, 108, 108]) = (l == [97, 108, 108]) := hS _
  have q4 : (s.toList == [101, 110, 100]) = (l == [101, 110, 100]) := hS _
  have q5 : (s.toList == [100, 111]) = (l == [100, 111]) := hS _
  have q6 : (s.toList == [117, 110, 100, 111]) = (l == [117, 110, 100, 111]) := hS _
  have q7 : (s.toList == [97, 116]) = (l == [97, 116]) := hS _
  have q8 : (s.toList == [114, 101, 116, 114, 105, 101, 115]) = (l == [114, 101, 116, 114, 105, 101, 115]) := hS _
  have q9 : (s.toList == [111, 110]) = (l == [111, 110]) := hS _
  have q10 : (s.toList == [105, 102]) = (l == [105, 102]) := hS _
  have q11 : (s.toList == [103, 111]) = (l == [103, 111]) := hS _
  have q12 : (s.toList == [115, 101, 116]) = (l == [115, 101, 116]) := hS _
  clear hS
  cases r0 : (l == [99, 104, 97, 114, 116])
  case true => rw [r0] at q0; clear q1 q2 q3 q4 q5 q6 q7 q8 q9 q10 q11 q12; go_enter Tryz.func96, Tryz.ntmps96; go_wp2; go_ret; exact ⟨by rw [eq_of_beq r0]; rfl, rfl⟩
  rw [r0] at q0
  cases r1 : (l == [118, 97, 114])
  case true => rw [r1] at q1; clear q2 q3 q4 q5 q6 q7 q8 q9 q10 q11 q12; go_enter Tryz.func96, Tryz.ntmps96; go_wp2; go_ret; exact ⟨by rw [eq_of_beq r1]; rfl, rfl⟩
  rw [r1] at q1
  cases r2 : (l == [115, 116, 97, 116, 101])
  case true => rw [r2] at q2; clear q3 q4 q5 q6 q7 q8 q9 q10 q11 q12; go_enter Tryz.func96, Tryz.ntmps96; go_wp2; go_ret; exact ⟨by rw [eq_of_beq r2]; rfl, rfl⟩
  rw [r2] at q2
  cases r3 : (l == [97, 108, 108])
  case true => rw [r3] at q3; clear q4 q5 q6 q7 q8 q9 q10 q11 q12; go_enter Tryz.func96, Tryz.ntmps96; go_wp2; go_ret; exact ⟨by rw [eq_of_beq r3]; rfl, rfl⟩
  rw [r3] at q3
  cases r4 : (l == [101, 110, 100])
  case true => rw [r4] at q4; clear q5 q6 q7 q8 q9 q10 q11 q12; go_enter Tryz.func96, Tryz.ntmps96; go_wp2; go_ret; exact ⟨by rw [eq_of_beq r4]; rfl, rfl⟩
  rw [r4] at q4
  cases r5 : (l == [100, 111])
  case true => rw [r5] at q5; clear q6 q7 q8 q9 q10 q11 q12; go_enter Tryz.func96, Tryz.ntmps96; go_wp2; go_ret; exact ⟨by rw [eq_of_beq r5]; rfl, rfl⟩
  rw [r5] at q5
  cases r6 : (l == [117, 110, 100, 111])
  case true => rw [r6] at q6; clear q7 q8 q9 q10 q11 q12; go_enter Tryz.func96, Tryz.ntmps96; go_wp2; go_ret; exact ⟨by rw [eq_of_beq r6]; rfl, rfl⟩
  rw [r6] at q6
  cases r7 : (l == [97, 116])
  case true => rw [r7] at q7; clear q8 q9 q10 q11 q12; go_enter Tryz.func96, Tryz.ntmps96; go_wp2; go_ret; exact ⟨by rw [eq_of_beq r7]; rfl, rfl⟩
  rw [r7] at q7
  cases r8 : (l == [114, 101, 116, 114, 105, 101, 115])
  case true => rw [r8] at q8; clear q9 q10 q11 q12; go_enter Tryz.func96, Tryz.ntmps96; go_wp2; go_ret; exact ⟨by rw [eq_of_beq r8]; rfl, rfl⟩
  rw [r8] at q8
  cases r9 : (l == [111, 110])
  case true => rw [r9] at q9; clear q10 q11 q12; go_enter Tryz.func96, Tryz.ntmps96; go_wp2; go_ret; exact ⟨by rw [eq_of_beq r9]; rfl, rfl⟩
  rw [r9] at q9
  cases r10 : (l == [105, 102])
  case true => rw [r10] at q10; clear q11 q12; go_enter Tryz.func96, Tryz.ntmps96; go_wp2; go_ret; exact ⟨by rw [eq_of_beq r10]; rfl, rfl⟩
  rw [r10] at q10
  cases r11 : (l == [103, 111])
  case true => rw [r11] at q11; clear q12; go_enter Tryz.func96, Tryz.ntmps96; go_wp2; go_ret; exact ⟨by rw [eq_of_beq r11]; rfl, rfl⟩
  rw [r11] at q11
  cases r12 : (l == [115, 101, 116])
  case true => rw [r12] at q12; go_enter Tryz.func96, Tryz.ntmps96; go_wp2; go_ret; exact ⟨by rw [eq_of_beq r12]; rfl, rfl⟩
  rw [r12] at q12
  go_enter Tryz.func96, Tryz.ntmps96
  go_wp2
  go_ret
  exact ⟨by have e : rsvB l = false := by simp [rsvB, rsv13, beq_eq_false_iff_ne.1 r0, beq_eq_false_iff_ne.1 r1, beq_eq_false_iff_ne.1 r2, beq_eq_false_iff_ne.1 r3, beq_eq_false_iff_ne.1 r4, beq_eq_false_iff_ne.1 r5, beq_eq_false_iff_ne.1 r6, beq_eq_false_iff_ne.1 r7, beq_eq_false_iff_ne.1 r8, beq_eq_false_iff_ne.1 r9, beq_eq_false_iff_ne.1 r10, beq_eq_false_iff_ne.1 r11, beq_eq_false_iff_ne.1 r12]
            rw [e]; rfl, rfl⟩
end Go.Proofs.YtccmmkhcacglhaaGreatDoor

/- The expression of a tree. -/
namespace Go.Proofs.YtccmmkhcacglhaaGreatDoor
open Go.RowKit
set_option linter.unusedSimpArgs false
set_option linter.unusedVariables false

/-- The expression of a tree. -/
def exV : (d : Nat) → T d → Value := fold (fun k n s l =>
  if k = 1 then .iface 178 (.agg #[.int .i64 n]) else if k = 2 then .iface 180 (.agg #[.string s]) else if k = 3 then .iface 182 (.agg #[l.getD 0 .nilIface]) else if k = 4 then .iface 183 (.agg #[l.getD 0 .nilIface])
  else if k = 5 then .iface 185 (.agg #[.string s, l.getD 0 .nilIface, l.getD 1 .nilIface]) else .nilIface)
def exP {d : Nat} (ps : List (T d)) (i : Nat) : Value := (ps.map (exV d)).getD i .nilIface
theorem exV_mk {d : Nat} (k n : Int) (s : ByteArray) (ps : List (T d)) : exV (d + 1) (mkT k n s ps) =
    if k = 1 then .iface 178 (.agg #[.int .i64 n]) else if k = 2 then .iface 180 (.agg #[.string s]) else if k = 3 then .iface 182 (.agg #[exP ps 0]) else if k = 4 then .iface 183 (.agg #[exP ps 0])
    else if k = 5 then .iface 185 (.agg #[.string s, exP ps 0, exP ps 1]) else .nilIface := rfl
theorem exV_form : ∀ (d : Nat) (t : T d), exV d t = .nilIface ∨ ∃ u x, exV d t = .iface u x
  | 0, t => Empty.elim t
  | d + 1, t => by
    obtain ⟨k, n, s, ps, rfl⟩ := T.open t
    rw [exV_mk]
    repeat' split
    all_goals first | exact .inl rfl | exact .inr ⟨_, _, rfl⟩
end Go.Proofs.YtccmmkhcacglhaaGreatDoor

/- What an expression is by itself: topOf. -/
namespace Go.Proofs.YtccmmkhcacglhaaGreatDoor
open Go.RowKit Go.Lib
set_option linter.unusedSimpArgs false
set_option linter.unusedVariables false
attribute [local go_sem ↓] Go.wp_at_zero Go.wp_at_succ

/-- The slice v holds the values l, from a block's first cell on. -/
def Kids (w : World) (v : Value) (l : List Value) : Prop :=
  (v = .slice none 0 0 ∧ l = []) ∨ ∃ g, v = .slice (some ⟨g, 0, none⟩) l.length l.length ∧ ∀ (i : Nat) (h : i < l.length), w.cell? ⟨g, i, none⟩ = some l[i]
abbrev topV (k n : Int) (s : ByteArray) (v : Value) : Value := .agg #[.int .i64 k, .int .i64 n, .string s, v]
def Ifc (x : Value) : Prop := x = .nilIface ∨ ∃ u y, x = .iface u y

theorem as_lit_lit (v : Value) (w : World) : (Instr.typeAssert (.iface 178 v) 139 178 true).run Tryz.prog w = .ok (.tuple #[v, .bool true]) w := by kernel_rfl
theorem as_ref_lit (v : Value) (w : World) : (Instr.typeAssert (.iface 180 v) 139 178 true).run Tryz.prog w = .ok (.tuple #[.agg #[.int .i64 0], .bool false]) w := by kernel_rfl
theorem as_ref_ref (v : Value) (w : World) : (Instr.typeAssert (.iface 180 v) 139 180 true).run Tryz.prog w = .ok (.tuple #[v, .bool true]) w := by kernel_rfl
theorem as_not_lit (v : Value) (w : World) : (Instr.typeAssert (.iface 182 v) 139 178 true).run Tryz.prog w = .ok (.tuple #[.agg #[.int .i64 0], .bool false]) w := by kernel_rfl
theorem as_not_ref (v : Value) (w : World) : (Instr.typeAssert (.iface 182 v) 139 180 true).run Tryz.prog w = .ok (.tuple #[.agg #[.string ⟨#[]⟩], .bool false]) w := by kernel_rfl
theorem as_not_not (v : Value) (w : World) : (Instr.typeAssert (.iface 182 v) 139 182 true).run Tryz.prog w = .ok (.tuple #[v, .bool true]) w := by kernel_rfl
theorem as_neg_lit (v : Value) (w : World) : (Instr.typeAssert (.iface 183 v) 139 178 true).run Tryz.prog w = .ok (.tuple #[.agg #[.int .i64 0], .bool false]) w := by kernel_rfl
theorem as_neg_ref (v : Value) (w : World) : (Instr.typeAssert (.iface 183 v) 139 180 true).run Tryz.prog w = .ok (.tuple #[.agg #[.string ⟨#[]⟩], .bool false]) w := by kernel_rfl
theorem as_neg_not (v : Value) (w : World) : (Instr.typeAssert (.iface 183 v) 139 182 true).run Tryz.prog w = .ok (.tuple #[.agg #[.nilIface], .bool false]) w := by kernel_rfl
theorem as_neg_neg (v : Value) (w : World) : (Instr.typeAssert (.iface 183 v) 139 183 true).run Tryz.prog w = .ok (.tuple #[v, .bool true]) w := by kernel_rfl
theorem as_bin_lit (v : Value) (w : World) : (Instr.typeAssert (.iface 185 v) 139 178 true).run Tryz.prog w = .ok (.tuple #[.agg #[.int .i64 0], .bool false]) w := by kernel_rfl
theorem as_bin_ref (v : Value) (w : World) : (Instr.typeAssert (.iface 185 v) 139 180 true).run Tryz.prog w = .ok (.tuple #[.agg #[.string ⟨#[]⟩], .bool false]) w := by kernel_rfl
theorem as_bin_not (v : Value) (w : World) : (Instr.typeAssert (.iface 185 v) 139 182 true).run Tryz.prog w = .ok (.tuple #[.agg #[.nilIface], .bool false]) w := by kernel_rfl
theorem as_bin_neg (v : Value) (w : World) : (Instr.typeAssert (.iface 185 v) 139 183 true).run Tryz.prog w = .ok (.tuple #[.agg #[.nilIface], .bool false]) w := by kernel_rfl
theorem as_bin_bin (v : Value) (w : World) : (Instr.typeAssert (.iface 185 v) 139 185 true).run Tryz.prog w = .ok (.tuple #[v, .bool true]) w := by kernel_rfl
attribute [local go_sem] as_lit_lit as_ref_lit as_ref_ref as_not_lit as_not_ref as_not_not as_neg_lit as_neg_ref as_neg_not as_neg_neg as_bin_lit as_bin_ref as_bin_not as_bin_neg as_bin_bin

theorem cell1_new (w : World) (a : Value) (t : TypeId) (n : Nat) (hn : n = w.heap.size) : (w.alloc (.cells #[a] t)).cell? ⟨n, 0, none⟩ = some a := by subst hn; simp
theorem cell2_new (w : World) (a b : Value) (t : TypeId) (n : Nat) (hn : n = w.heap.size) : (w.alloc (.cells #[a, b] t)).cell? ⟨n, 0, none⟩ = some a ∧ (w.alloc (.cells #[a, b] t)).cell? ⟨n, 1, none⟩ = some b := by subst hn; simp
theorem kids0 (w : World) : Kids w (.slice none 0 0) [] := .inl ⟨rfl, rfl⟩
theorem kids1 {w : World} {g : Nat} {x : Value} (h : w.cell? ⟨g, 0, none⟩ = some x) : Kids w (.slice (some ⟨g, 0, none⟩) 1 1) [x] := .inr ⟨g, rfl, fun i hi => by
  match i, hi with
  | 0, _ => exact h⟩
theorem kids2 {w : World} {g : Nat} {x y : Value} (h : w.cell? ⟨g, 0, none⟩ = some x) (h' : w.cell? ⟨g, 1, none⟩ = some y) : Kids w (.slice (some ⟨g, 0, none⟩) 2 2) [x, y] := .inr ⟨g, rfl, fun i hi => by
  match i, hi with
  | 0, _ => exact h
  | 1, _ => exact h'⟩
theorem Kids.below {w w' : World} {v : Value} {l : List Value} {B : Nat} (h : Kids w v l) (hb : Below B w w') (hB : w.heap.size ≤ B) : Kids w' v l := by
  rcases h with h | ⟨g, hv, hc⟩
  · exact .inl h
  · exact .inr ⟨g, hv, fun i hi => by rw [hb.cell (p := ⟨g, i, none⟩) (Nat.lt_of_lt_of_le (World.block_lt_of_cell? w _ (hc i hi)) hB)]; exact hc i hi⟩

theorem top_nil (w : World) : Calls Tryz.prog 152 #[.nilIface] w fun e w' => ∃ sl, e = .returned (topV 0 0 ⟨#[]⟩ sl) ∧ Kids w' sl [] ∧ Below w.heap.size w w' := by
  go_enter Tryz.func152, Tryz.ntmps152
  go_wp2
  refine bodyPost_ret (v := topV 0 0 ⟨#[]⟩ (.slice none 0 0)) (by simp [results, Tryz.results152, go_sem]) rfl ⟨_, rfl, kids0 _, ?_⟩
  · (repeat (refine Below.alloc ?_ (by simp <;> omega) _)); exact Below.refl _ _

theorem top_lit (n : Int) (w : World) : Calls Tryz.prog 152 #[.iface 178 (.agg #[.int .i64 n])] w fun e w' => ∃ sl, e = .returned (topV 1 n ⟨#[]⟩ sl) ∧ Kids w' sl [] ∧ Below w.heap.size w w' := by
  go_enter Tryz.func152, Tryz.ntmps152
  go_wp2
  refine bodyPost_ret (v := topV 1 n ⟨#[]⟩ (.slice none 0 0)) (by simp [results, Tryz.results152, go_sem]) rfl ⟨_, rfl, kids0 _, ?_⟩
  · (repeat (refine Below.alloc ?_ (by simp <;> omega) _)); exact Below.refl _ _

theorem top_ref (s : ByteArray) (w : World) : Calls Tryz.prog 152 #[.iface 180 (.agg #[.string s])] w fun e w' => ∃ sl, e = .returned (topV 2 0 s sl) ∧ Kids w' sl [] ∧ Below w.heap.size w w' := by
  go_enter Tryz.func152, Tryz.ntmps152
  go_wp2
  refine bodyPost_ret (v := topV 2 0 s (.slice none 0 0)) (by simp [results, Tryz.results152, go_sem]) rfl ⟨_, rfl, kids0 _, ?_⟩
  · (repeat (refine Below.alloc ?_ (by simp <;> omega) _)); exact Below.refl _ _

theorem top_not (x : Value) (hx : Ifc x) (w : World) : Calls Tryz.prog 152 #[.iface 182 (.agg #[x])] w fun e w' => ∃ sl, e = .returned (topV 3 0 ⟨#[]⟩ sl) ∧ Kids w' sl [x] ∧ Below w.heap.size w w' := by
  rcases hx with rfl | ⟨u, y, rfl⟩
  · go_enter Tryz.func152, Tryz.ntmps152
    go_wp2
    refine bodyPost_ret (v := topV 3 0 ⟨#[]⟩ (.slice (some ⟨w.heap.size + 4, 0, none⟩) 1 1)) (by simp [results, Tryz.results152, go_sem]) rfl ⟨_, rfl, kids1 ?_, ?_⟩
    · exact cell1_new _ _ _ _ (by simp)
    · (repeat (refine Below.alloc ?_ (by simp <;> omega) _)); exact Below.refl _ _
  · go_enter Tryz.func152, Tryz.ntmps152
    go_wp2
    refine bodyPost_ret (v := topV 3 0 ⟨#[]⟩ (.slice (some ⟨w.heap.size + 4, 0, none⟩) 1 1)) (by simp [results, Tryz.results152, go_sem]) rfl ⟨_, rfl, kids1 ?_, ?_⟩
    · exact cell1_new _ _ _ _ (by simp)
    · (repeat (refine Below.alloc ?_ (by simp <;> omega) _)); exact Below.refl _ _

theorem top_neg (x : Value) (hx : Ifc x) (w : World) : Calls Tryz.prog 152 #[.iface 183 (.agg #[x])] w fun e w' => ∃ sl, e = .returned (topV 4 0 ⟨#[]⟩ sl) ∧ Kids w' sl [x] ∧ Below w.heap.size w w' := by
  rcases hx with rfl | ⟨u, y, rfl⟩
  · go_enter Tryz.func152, Tryz.ntmps152
    go_wp2
    refine bodyPost_ret (v := topV 4 0 ⟨#[]⟩ (.slice (some ⟨w.heap.size + 5, 0, none⟩) 1 1)) (by simp [results, Tryz.results152, go_sem]) rfl ⟨_, rfl, kids1 ?_, ?_⟩
    · exact cell1_new _ _ _ _ (by simp)
    · (repeat (refine Below.alloc ?_ (by simp <;> omega) _)); exact Below.refl _ _
  · go_enter Tryz.func152, Tryz.ntmps152
    go_wp2
    refine bodyPost_ret (v := topV 4 0 ⟨#[]⟩ (.slice (some ⟨w.heap.size + 5, 0, none⟩) 1 1)) (by simp [results, Tryz.results152, go_sem]) rfl ⟨_, rfl, kids1 ?_, ?_⟩
    · exact cell1_new _ _ _ _ (by simp)
    · (repeat (refine Below.alloc ?_ (by simp <;> omega) _)); exact Below.refl _ _

theorem top_bin (s : ByteArray) (x x' : Value) (hx : Ifc x) (hx' : Ifc x') (w : World) : Calls Tryz.prog 152 #[.iface 185 (.agg #[.string s, x, x'])] w fun e w' => ∃ sl, e = .returned (topV 5 0 s sl) ∧ Kids w' sl [x, x'] ∧ Below w.heap.size w w' := by
  rcases hx with rfl | ⟨u, y, rfl⟩ <;> rcases hx' with rfl | ⟨u', y', rfl⟩
  · go_enter Tryz.func152, Tryz.ntmps152
    go_wp2
    refine bodyPost_ret (v := topV 5 0 s (.slice (some ⟨w.heap.size + 6, 0, none⟩) 2 2)) (by simp [results, Tryz.results152, go_sem]) rfl ⟨_, rfl, kids2 ?_ ?_, ?_⟩
    · exact (cell2_new _ _ _ _ _ (by simp)).1
    · exact (cell2_new _ _ _ _ _ (by simp)).2
    · (repeat (refine Below.alloc ?_ (by simp <;> omega) _)); exact Below.refl _ _
  · go_enter Tryz.func152, Tryz.ntmps152
    go_wp2
    refine bodyPost_ret (v := topV 5 0 s (.slice (some ⟨w.heap.size + 6, 0, none⟩) 2 2)) (by simp [results, Tryz.results152, go_sem]) rfl ⟨_, rfl, kids2 ?_ ?_, ?_⟩
    · exact (cell2_new _ _ _ _ _ (by simp)).1
    · exact (cell2_new _ _ _ _ _ (by simp)).2
    · (repeat (refine Below.alloc ?_ (by simp <;> omega) _)); exact Below.refl _ _
  · go_enter Tryz.func152, Tryz.ntmps152
    go_wp2
    refine bodyPost_ret (v := topV 5 0 s (.slice (some ⟨w.heap.size + 6, 0, none⟩) 2 2)) (by simp [results, Tryz.results152, go_sem]) rfl ⟨_, rfl, kids2 ?_ ?_, ?_⟩
    · exact (cell2_new _ _ _ _ _ (by simp)).1
    · exact (cell2_new _ _ _ _ _ (by simp)).2
    · (repeat (refine Below.alloc ?_ (by simp <;> omega) _)); exact Below.refl _ _
  · go_enter Tryz.func152, Tryz.ntmps152
    go_wp2
    refine bodyPost_ret (v := topV 5 0 s (.slice (some ⟨w.heap.size + 6, 0, none⟩) 2 2)) (by simp [results, Tryz.results152, go_sem]) rfl ⟨_, rfl, kids2 ?_ ?_, ?_⟩
    · exact (cell2_new _ _ _ _ _ (by simp)).1
    · exact (cell2_new _ _ _ _ _ (by simp)).2
    · (repeat (refine Below.alloc ?_ (by simp <;> omega) _)); exact Below.refl _ _

theorem ifc_ex {d : Nat} (t : T d) : Ifc (exV d t) := exV_form d t
/-- What an expression is by itself. -/
theorem top_any {d : Nat} {t : T (d + 1)} (hc : Cl (d + 1) t) : ∃ k n s ps, t = mkT k n s ps ∧ ∀ w, Calls Tryz.prog 152 #[exV (d + 1) t] w fun e w' => ∃ sl, e = .returned (topV k n s sl) ∧ Kids w' sl (ps.map (exV d)) ∧ Below w.heap.size w w' := by
  rcases hc.cases with ⟨n, rfl⟩ | ⟨s, rfl⟩ | ⟨k, p, hk, rfl, hp⟩ | ⟨s, p, q, rfl, hp, hq⟩ | rfl
  · exact ⟨1, n, _, [], rfl, fun w => top_lit n w⟩
  · exact ⟨2, 0, s, [], rfl, fun w => top_ref s w⟩
  · rcases hk with rfl | rfl
    · exact ⟨3, 0, _, [p], rfl, fun w => top_not (exV d p) (ifc_ex p) w⟩
    · exact ⟨4, 0, _, [p], rfl, fun w => top_neg (exV d p) (ifc_ex p) w⟩
  · exact ⟨5, 0, s, [p, q], rfl, fun w => top_bin s (exV d p) (exV d q) (ifc_ex p) (ifc_ex q) w⟩
  · exact ⟨0, 0, _, [], rfl, fun w => top_nil w⟩
end Go.Proofs.YtccmmkhcacglhaaGreatDoor
