
/- guard.Print. -/
import Derived.Test.YtiddccohldjjcaaGreatDoorPrA
import Derived.Test.YtiddccohldjjcaaGreatDoorPrB
import Derived.Test.YtiddccohldjjcaaGreatDoorPxR
namespace Go.Proofs.YtiddccohldjjcaaGreatDoor
open Go.RowKit Go.Lib
set_option linter.unusedSimpArgs false
set_option linter.unusedVariables false
attribute [local go_sem ↓] Go.wp_at_zero Go.wp_at_succ
theorem nm_plain : ∀ (d : Nat) (t : T d), (nmC d t).any (fun s => rsvB (bl s)) = !plC d t
  | 0, t => Empty.elim t
  | d + 1, t => by
    obtain ⟨k, n, s, ps, rfl⟩ := T.open t
    rw [nmC_mk, plC_mk, List.any_append]
    have h1 : ∀ l : List (T d), (l.map (nmC d)).flatten.any (fun s => rsvB (bl s)) = !(l.all (plC d)) := fun l => by
      induction l with
      | nil => rfl
      | cons p r ih =>
        have h2 := nm_plain d p
        rw [List.map_cons, List.flatten_cons, List.any_append, ih, h2, List.all_cons]
        cases plC d p <;> rfl
    rw [h1]
    have h3 : (if k = 2 then [s] else []).any (fun s => rsvB (bl s)) = (decide (k = 2) && rsvB s.data.toList) := by
      by_cases hk : k = 2
      · rw [if_pos hk, decide_eq_true hk]; simp
      · rw [if_neg hk, decide_eq_false hk]; rfl
    rw [h3]
    cases (decide (k = 2) && rsvB s.data.toList) <;> cases ps.all (plC d) <;> rfl
theorem rf_plain (d : Nat) (t : T d) : (rfC d t []).any (fun s => rsvB (bl s)) = !plC d t := by
  rw [← nm_plain]
  have h := (fold_up (nmC d t) [] (by simp [Up])).2
  rw [← rf_nm] at h
  have e : ∀ l : List ByteArray, l.any (fun s => rsvB (bl s)) = (l.map bl).any rsvB := fun l => by rw [List.any_map]; rfl
  rw [e, e, Bool.eq_iff_iff, List.any_eq_true, List.any_eq_true]
  constructor
  · rintro ⟨x, hx, hr⟩; exact ⟨x, by simpa using (h x).1 hx, hr⟩
  · rintro ⟨x, hx, hr⟩; exact ⟨x, (h x).2 (.inr hx), hr⟩
/-- What is printed, or an error. -/
def prC (d : Nat) (t : T d) : List UInt8 × Int := if fmC d t = true ∧ plC d t = true then (txtC d t, 0) else ([], 1)
theorem txt_len {d : Nat} {t : T d} (hc : Cl d t) (hf : fmC d t = true) (hp : plC d t = true) : (txtC d t).length ≤ 4000 := by
  obtain ⟨h40, hs⟩ := fm_parts hf
  obtain ⟨ho, hr⟩ := ok_sound d t hc hs hp
  have hb := pcs_len d t hc hr
  show (txP (pcs dcN d t).2).length ≤ 4000
  omega
set_option maxRecDepth 100000 in
set_option maxHeartbeats 4000000 in
theorem printP {d : Nat} {t : T d} (w : World) (hc : Cl d t) (hn : cnt d t ≤ 1000) (hs : shrt 1000 d t = true) (hw : Pow w) :
    Calls Tryz.prog 8 #[exV d t] w fun e w' => e = .returned (.tuple #[.string ⟨(prC d t).1.toArray⟩, .int .i64 (prC d t).2]) ∧ Below w.heap.size w w' := by
  have h1 := formedP d t w hc (by omega) hs
  have h2 := fun w1 => refs_anyP w1 hc hn hs
  have h3 := fun (hf : fmC d t = true) (hp : plC d t = true) w1 hw1 => text_any d t w1 hc (fm_parts hf).2 (by have := txt_len hc hf hp; omega) hw1
  have h4 := fun (v : Value) (w1 : World) (h : RdS w1 v (rfT d t)) => contains_any h
  have hpl := rf_plain d t
  unfold prC
  obtain ⟨ev, hev⟩ : ∃ ev, exV d t = ev := ⟨_, rfl⟩
  have hfm : ev = .nilIface ∨ ∃ u y, ev = .iface u y := by rw [← hev]; exact exV_form d t
  rw [hev] at h1 ⊢
  simp only [hev] at h2 h3
  clear hev
  by_cases hf : fmC d t = true
  case neg =>
    rw [if_neg (fun h => hf h.1)]
    have hf' : fmC d t = false := by simpa using hf
    rw [hf'] at h1
    clear h2 h3 h4 hpl hf hf'
    rcases hfm with rfl | ⟨u, y, rfl⟩
    all_goals
      go_enter Tryz.func8, Tryz.ntmps8
      go_wp2_with (first | (go_at_call 18; refine h1.mono ?_; rintro e w2 ⟨rfl, b2⟩))
      go_ret2
      exact ⟨rfl, b2⟩
  rw [hf] at h1
  unfold rfT at h2 h4
  simp only [if_pos hf, hpl] at h2 h4
  by_cases hp : plC d t = true
  · rw [if_pos ⟨hf, hp⟩]
    rw [hp] at h4
    replace h3 := h3 hf hp
    generalize txtC d t = X at *
    rcases hfm with rfl | ⟨u, y, rfl⟩
    all_goals
      go_enter Tryz.func8, Tryz.ntmps8
      go_wp2_with (first
        | (go_at_call 18; refine h1.mono ?_; rintro e w2 ⟨rfl, b2⟩)
        | (go_at_call 20; refine (h2 _).mono ?_; rintro e w3 ⟨v, rfl, hv, b3⟩; have b3' := bthen b2 b3; obtain ⟨a, cap, rfl, _, _⟩ := hv.at')
        | (go_at_call 19; refine (h4 _ _ hv).mono ?_; rintro e w4 ⟨rfl, rfl⟩)
        | (go_at_call 21; refine (h3 _ (hw.below b3')).mono ?_; rintro e w5 ⟨rfl, b5⟩; have b5' := bthen b3' b5))
      go_ret2
      exact ⟨rfl, b5'⟩
  · rw [if_neg (fun h => hp h.2)]
    have hp' : plC d t = false := by simpa using hp
    rw [hp'] at h4
    clear h3
    rcases hfm with rfl | ⟨u, y, rfl⟩
    all_goals
      go_enter Tryz.func8, Tryz.ntmps8
      go_wp2_with (first
        | (go_at_call 18; refine h1.mono ?_; rintro e w2 ⟨rfl, b2⟩)
        | (go_at_call 20; refine (h2 _).mono ?_; rintro e w3 ⟨v, rfl, hv, b3⟩; have b3' := bthen b2 b3; obtain ⟨a, cap, rfl, _, _⟩ := hv.at')
        | (go_at_call 19; refine (h4 _ _ hv).mono ?_; rintro e w4 ⟨rfl, rfl⟩))
      go_ret2
      exact ⟨rfl, b3'⟩
end Go.Proofs.YtiddccohldjjcaaGreatDoor
