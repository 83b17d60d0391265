
/- What the program's piece, right, behind and End do. -/
import Derived.Test.YtiddccohldjjcaaDoorGlyT
namespace Go.Proofs.YtiddccohldjjcaaDoor
open Go.RowKit Go.Lib
set_option linter.unusedSimpArgs false
set_option linter.unusedVariables false

/-- Of which kind what a text begins with would be, and how many runes it has. -/
def pc (l : List UInt8) : Nat × Nat :=
  if (nx l).1 = 32 ∨ (nx l).1 = 9 ∨ (nx l).1 = 10 then (0, 1) else if (nx l).1 = 35 then (0, rest (runes l)) else if letter (nx l).1 = true then (1, spn (runes l))
  else if dgt (nx l).1 = true then (2, spn (runes l)) else (3, sgn (runes l))
def pcB (l : List UInt8) : Nat := (byt ((runes l).take (pc l).2)).length
abbrev tup22 (a b : Nat) : Value := .tuple #[.int .i64 (a : Int), .int .i64 (b : Int)]

set_option maxHeartbeats 2000000 in
theorem pPiece_any (s : ByteArray) (w : World) (hs : s.size ≤ 140737488351232) (h0 : 0 < s.size) :
    Calls Tryd.prog 26 #[.int .i32 (rn (nx (bl s)).1), .string s] w fun e w' => e = .returned (tup22 (pc (bl s)).1 (pcB (bl s))) ∧ Below w.heap.size w w' := by
  have hne : bl s ≠ [] := by intro e; have := bl_length s; rw [e] at this; simp at this; omega
  have h1 := pRemark_any s w hs
  have h2 := pRun_any s w hs
  have h3 := pSign_any s w h0
  have h4 := pLetter_any (rn (nx (bl s)).1) w
  have h5 := pDigit_any (rn (nx (bl s)).1) w
  rw [letter_rn] at h4
  rw [dgt_rn] at h5
  have hone : 0 ≤ (nx (bl s)).1 ∧ (nx (bl s)).1 < 128 → (byt ((runes (bl s)).take 1)).length = 1 := fun h => by
    obtain ⟨c, e1, _⟩ := asc_one (l := bl s) (v := ((nx (bl s)).1, (bl s).take (nx (bl s)).2)) (by rw [runes_cons hne]; simp) h
    rw [runes_cons hne, List.take_succ_cons, List.take_zero, byt_cons]
    simp only at e1
    rw [e1]; rfl
  have hsg := sgn_bytes (bl s)
  unfold pcB
  unfold pc
  have q1 := rn_small (r := (nx (bl s)).1) (k := 32) (by omega)
  have q2 := rn_small (r := (nx (bl s)).1) (k := 9) (by omega)
  have q3 := rn_small (r := (nx (bl s)).1) (k := 10) (by omega)
  have q4 := rn_small (r := (nx (bl s)).1) (k := 35) (by omega)
  have hR : (byt ((runes (bl s)).take (rest (runes (bl s))))).length = rsb (bl s) := rfl
  have hS : (byt ((runes (bl s)).take (spn (runes (bl s))))).length = spb (bl s) := rfl
  obtain ⟨r, hr⟩ : ∃ r, (nx (bl s)).1 = r := ⟨_, rfl⟩
  obtain ⟨x, hx⟩ : ∃ x, rn r = x := ⟨_, rfl⟩
  obtain ⟨a, ha⟩ : ∃ a, rsb (bl s) = a := ⟨_, rfl⟩
  obtain ⟨b, hb⟩ : ∃ b, spb (bl s) = b := ⟨_, rfl⟩
  obtain ⟨c, hc⟩ : ∃ c, sgn (runes (bl s)) = c := ⟨_, rfl⟩
  rw [hr] at h4 h5 q1 q2 q3 q4 hone ⊢
  rw [hx] at h4 h5 q1 q2 q3 q4 ⊢
  rw [ha] at h1 hR
  rw [hb] at h2 hS
  rw [hc] at h3 hsg ⊢
  by_cases c1 : r = 32 ∨ r = 9 ∨ r = 10
  · rw [if_pos c1]
    simp only [hone (by omega)]
    clear h1 h2 h3 h4 h5 hone hsg hR hS hr hx ha hb hc hne q4
    by_cases k1 : r = 32
    · have e1 : (x == 32) = true := by rw [q1.2 k1]; rfl
      clear c1 q1 q2 q3 k1
      go_enter Tryd.func26, Tryd.ntmps26
      go_wp2
      go_ret2
      exact ⟨rfl, Below.refl _ _⟩
    have e1 : (x == 32) = false := beq_eq_false_iff_ne.2 (fun e => k1 (q1.1 e))
    by_cases k2 : r = 9
    · have e2 : (x == 9) = true := by rw [q2.2 k2]; rfl
      clear c1 q1 q2 q3 k1 k2
      go_enter Tryd.func26, Tryd.ntmps26
      go_wp2
      go_ret2
      exact ⟨rfl, Below.refl _ _⟩
    have e2 : (x == 9) = false := beq_eq_false_iff_ne.2 (fun e => k2 (q2.1 e))
    have e3 : (x == 10) = true := by rw [q3.2 (by omega)]; rfl
    clear c1 q1 q2 q3 k1 k2
    go_enter Tryd.func26, Tryd.ntmps26
    go_wp2
    go_ret2
    exact ⟨rfl, Below.refl _ _⟩
  rw [if_neg c1]
  have e1 : (x == 32) = false := beq_eq_false_iff_ne.2 (fun e => c1 (.inl (q1.1 e)))
  have e2 : (x == 9) = false := beq_eq_false_iff_ne.2 (fun e => c1 (.inr (.inl (q2.1 e))))
  have e3 : (x == 10) = false := beq_eq_false_iff_ne.2 (fun e => c1 (.inr (.inr (q3.1 e))))
  by_cases c2 : r = 35
  · rw [if_pos c2]
    simp only [hR]
    have e4 : (x == 35) = true := by rw [q4.2 c2]; rfl
    clear h2 h3 h4 h5 hone hsg hR hS hr hx ha hb hc hne q1 q2 q3 q4 c1 c2
    go_enter Tryd.func26, Tryd.ntmps26
    go_wp2_with (first
      | (go_at_call 47; refine h1.mono ?_; rintro e w1 ⟨rfl, b1⟩))
    go_ret2
    exact ⟨rfl, b1⟩
  rw [if_neg c2]
  have e4 : (x == 35) = false := beq_eq_false_iff_ne.2 (fun e => c2 (q4.1 e))
  cases hl : letter r with
  | true =>
    rw [if_pos rfl]
    simp only [hS]
    rw [hl] at h4
    clear h1 h3 h5 hone hsg hR hS hr hx ha hb hc hne q1 q2 q3 q4 c1 c2 hl
    go_enter Tryd.func26, Tryd.ntmps26
    go_wp2_with (first
      | (go_at_call 48; refine h4.mono ?_; rintro e w' ⟨rfl, rfl⟩)
      | (go_at_call 49; refine h2.mono ?_; rintro e w1 ⟨rfl, b1⟩))
    go_ret2
    exact ⟨rfl, b1⟩
  | false =>
    rw [if_neg (by decide)]
    rw [hl] at h4
    cases hd : dgt r with
    | true =>
      rw [if_pos rfl]
      simp only [hS]
      rw [hd] at h5
      clear h1 h3 hone hsg hR hS hr hx ha hb hc hne q1 q2 q3 q4 c1 c2 hl hd
      go_enter Tryd.func26, Tryd.ntmps26
      go_wp2_with (first
        | (go_at_call 48; refine h4.mono ?_; rintro e w' ⟨rfl, rfl⟩)
        | (go_at_call 50; refine h5.mono ?_; rintro e w' ⟨rfl, rfl⟩)
        | (go_at_call 49; refine h2.mono ?_; rintro e w1 ⟨rfl, b1⟩))
      go_ret2
      exact ⟨rfl, b1⟩
    | false =>
      rw [if_neg (by decide)]
      simp only [hsg]
      rw [hd] at h5
      clear h1 h2 hone hsg hR hS hr hx ha hb hc hne q1 q2 q3 q4 c1 c2 hl hd
      go_enter Tryd.func26, Tryd.ntmps26
      go_wp2_with (first
        | (go_at_call 48; refine h4.mono ?_; rintro e w' ⟨rfl, rfl⟩)
        | (go_at_call 50; refine h5.mono ?_; rintro e w' ⟨rfl, rfl⟩)
        | (go_at_call 51; refine h3.mono ?_; rintro e w' ⟨rfl, rfl⟩))
      go_ret2
      exact ⟨rfl, Below.refl _ _⟩

/-- May a piece of that kind stand in a text? -/
def rightS (K : Nat) (t : List UInt8) : Bool := if K = 1 then nameS t else if K = 2 then numB t else if K = 3 then !(decide (t = [])) else true

set_option maxHeartbeats 1000000 in
theorem pRight_any (K : Nat) (t : ByteArray) (w : World) (hs : t.size ≤ 140737488351232) :
    Calls Tryd.prog 27 #[.int .i64 (K : Int), .string t] w fun e w' => e = .returned (.bool (rightS K (bl t))) ∧ Below w.heap.size w w' := by
  have h1 := pName_any t w hs
  have h2 := pNumber_any t w hs
  unfold rightS
  obtain ⟨a, ha⟩ : ∃ a, nameS (bl t) = a := ⟨_, rfl⟩
  obtain ⟨b, hb⟩ : ∃ b, numB (bl t) = b := ⟨_, rfl⟩
  rw [ha] at h1 ⊢
  rw [hb] at h2 ⊢
  clear ha hb
  by_cases k1 : K = 1
  · subst k1
    rw [if_pos rfl]
    go_enter Tryd.func27, Tryd.ntmps27
    go_wp2_with (first
      | (go_at_call 52; refine h1.mono ?_; rintro e w1 ⟨rfl, b1⟩))
    go_ret
    exact ⟨rfl, b1⟩
  rw [if_neg k1]
  have e1 : ((K : Int) == 1) = false := beq_eq_false_iff_ne.2 (by omega)
  by_cases k2 : K = 2
  · subst k2
    rw [if_pos rfl]
    go_enter Tryd.func27, Tryd.ntmps27
    go_wp2_with (first
      | (go_at_call 53; refine h2.mono ?_; rintro e w1 ⟨rfl, b1⟩))
    go_ret
    exact ⟨rfl, b1⟩
  rw [if_neg k2]
  have e2 : ((K : Int) == 2) = false := beq_eq_false_iff_ne.2 (by omega)
  by_cases k3 : K = 3
  · subst k3
    rw [if_pos rfl]
    have e : (t.toList == []) = decide (bl t = []) := by rw [ByteArray.toList_eq, Bool.eq_iff_iff]; simp
    obtain ⟨z, hz⟩ : ∃ z, decide (bl t = []) = z := ⟨_, rfl⟩
    rw [hz] at e ⊢
    clear hz h1 h2 e1 e2
    go_enter Tryd.func27, Tryd.ntmps27
    go_wp2
    go_ret
    exact ⟨by simp [bne, e], Below.refl _ _⟩
  rw [if_neg k3]
  have e3 : ((K : Int) == 3) = false := beq_eq_false_iff_ne.2 (by omega)
  clear h1 h2
  go_enter Tryd.func27, Tryd.ntmps27
  go_wp2
  go_ret
  exact ⟨rfl, Below.refl _ _⟩

abbrev ps (a b : Int) : Value := .agg #[.int .i64 a, .int .i64 b]
theorem pBehind_feed (ln co : Int) (w : World) (h1 : 0 ≤ ln ∧ ln ≤ 140737488351233) :
    Calls Tryd.prog 29 #[ps ln co, .int .i32 10] w fun e w' => e = .returned (ps (ln + 1) 1) ∧ Below w.heap.size w w' := by
  go_enter Tryd.func29, Tryd.ntmps29
  go_wp2
  exact bodyPost_ret (v := ps (ln + 1) 1) (by simp [results, Tryd.results29, go_sem]) rfl ⟨rfl, ((Below.refl _ _).alloc (Nat.le_refl _) _).alloc (by simp) _⟩
theorem pBehind_on (ln co r : Int) (w : World) (h1 : 0 ≤ co ∧ co ≤ 140737488351233) (hr : r ≠ 10) :
    Calls Tryd.prog 29 #[ps ln co, .int .i32 r] w fun e w' => e = .returned (ps ln (co + 1)) ∧ Below w.heap.size w w' := by
  have e1 : (r == 10) = false := beq_eq_false_iff_ne.2 hr
  clear hr
  go_enter Tryd.func29, Tryd.ntmps29
  go_wp2
  exact bodyPost_ret (v := ps ln (co + 1)) (by simp [results, Tryd.results29, go_sem]) rfl ⟨rfl, ((Below.refl _ _).alloc (Nat.le_refl _) _).alloc (by simp) _⟩

/-- A string's iterator. -/
def It0 (w : World) (k : Nat) (s : ByteArray) (p : Nat) : Prop := w.heap[k]? = some (.stringIter s p)
theorem It0.keepB {w w' : World} {k B : Nat} {s : ByteArray} {p : Nat} (h : It0 w k s p) (hb : Below B w w') (hB : k < B) : It0 w' k s p := (hb.block k hB).trans h
theorem It0.lt {w : World} {k : Nat} {s : ByteArray} {p : Nat} (h : It0 w k s p) : k < w.heap.size := (Array.getElem?_eq_some_iff.1 h).1
theorem It0.keep {w w' : World} {k : Nat} {s : ByteArray} {p : Nat} (h : It0 w k s p) (hb : Below w.heap.size w w') : It0 w' k s p := h.keepB hb h.lt
theorem It0.set {w : World} {k X i : Nat} {s : ByteArray} {p : Nat} (h : It0 w k s p) (hne : X ≠ k) (v : Value) : It0 (w.setCell ⟨X, i, none⟩ v) k s p := by
  unfold It0
  rw [Below.heap_setCell _ _ _ _ (fun e => hne e.symm)]
  exact h

end Go.Proofs.YtiddccohldjjcaaDoor
