
/- binText, operandText, textOf: the text of an expression. -/
import Derived.Test.YtiddccohldjjcaaGreatDoorPgS
import Derived.Test.YtiddccohldjjcaaGreatDoorPgA
import Derived.Test.YtiddccohldjjcaaGreatDoorFmt
import Derived.Test.YtiddccohldjjcaaGreatDoorGlyK
import Derived.Test.YtiddccohldjjcaaGreatDoorPxT
import Derived.Test.YtiddccohldjjcaaGreatDoorGdX
import Derived.Test.YtiddccohldjjcaaGreatDoorExPf
import Derived.Deep.RegionHeldLaw
import Derived.Lib.AppendIntMem
namespace Go.Proofs.YtiddccohldjjcaaGreatDoor
open Go.RowKit Go.Lib
set_option linter.unusedSimpArgs false
set_option linter.unusedVariables false
attribute [local go_sem ↓] Go.wp_at_zero Go.wp_at_succ
attribute [local go_sem] as_lit_lit as_ref_lit as_ref_ref as_not_lit as_not_ref as_not_not as_neg_lit as_neg_ref as_neg_not as_neg_neg as_bin_lit as_bin_ref as_bin_not as_bin_neg as_bin_bin
/-- The table of powers of ten. -/
def Pow (w : World) : Prop := Lib.TabIs Tryz.prog w "internal/strconv.uint64pow10" .u64 Lib.pow10Tab
theorem Pow.below {w w' : World} (h : Pow w) (hb : Below w.heap.size w w') : Pow w' := tabBelow_of_tabIs h w' hb
theorem fmt_any {n : Int} (h0 : 0 ≤ n) (h1 : n ≤ 1000000000) (w : World) (hp : Pow w) :
    Calls Tryz.prog 35 #[.int .i64 n, .int .i64 10] w fun e w' => e = .returned (.string ⟨(dcN n).toArray⟩) ∧ Below w.heap.size w w' := by
  refine (Go.Proofs.Any.strconv_FormatInt_10 laysF n (by omega) (by omega) w hp).mono ?_
  rintro e w' ⟨rfl, k, os, rfl⟩
  refine ⟨?_, below_grow _ w (Nat.le_refl _) k os⟩
  unfold Lib.itoa dcN
  rw [if_neg (by omega)]
theorem sd_iface : ∀ {d : Nat} {t : T d}, Cl d t → sdC d t = true → ∃ u y, exV d t = .iface u y
  | 0, t, _, _ => Empty.elim t
  | d + 1, t, hc, h => by
    rcases exV_form (d + 1) t with h1 | h1
    · rcases hc.cases with ⟨n, rfl⟩ | ⟨s, rfl⟩ | ⟨k, p, hk, rfl, hp⟩ | ⟨s, p, q, rfl, hp, hq⟩ | rfl
      · exact ⟨_, _, rfl⟩
      · exact ⟨_, _, rfl⟩
      · rcases hk with rfl | rfl <;> exact ⟨_, _, rfl⟩
      · exact ⟨_, _, rfl⟩
      · exact absurd h (by simp [none0, sdC_mk])
    · exact h1
/-- An operand's text. -/
def aroX (d : Nat) (t : T d) (m : Nat) : List UInt8 := txP (aroP (pcs dcN d t) m)
theorem cell3_at (w : World) (a b c : Value) (t : TypeId) (n : Nat) (hn : n = w.heap.size) : (w.alloc (.cells #[a, b, c] t)).cell? ⟨n, 0, none⟩ = some a ∧ (w.alloc (.cells #[a, b, c] t)).cell? ⟨n, 1, none⟩ = some b ∧ (w.alloc (.cells #[a, b, c] t)).cell? ⟨n, 2, none⟩ = some c := by subst hn; simp
theorem txt_bin {d : Nat} (s : ByteArray) (p q : T d) : txtC (d + 1) (mkT 5 0 s [p, q]) = aroX d p (if lv (bl s) = 3 then 4 else lv (bl s)) ++ 32 :: (bl s ++ 32 :: aroX d q (lv (bl s) + 1)) := by
  show txP (pcF dcN 5 0 s [pcs dcN d p, pcs dcN d q]).2 = _
  show txP (aroP (pcs dcN d p) (if lv (bl s) = 3 then 4 else lv (bl s)) ++ none :: some (3, bl s) :: none :: aroP (pcs dcN d q) (lv (bl s) + 1)) = _
  rw [txP_app, txP_cons, txP_cons, txP_cons]
  rfl
theorem add_ok (a b c : ByteArray) (h : (bl a).length + (bl b).length ≤ 2000000) (hc : bl c = bl a ++ bl b) (W : World) : (Op.stringOp .add a b).run Tryz.prog W = .ok (.string c) W := by
  have h1 : a.size + b.size ≤ 2000000 := h
  have e : a ++ b = c := by
    have e1 : (a ++ b).data = c.data := by
      rw [ByteArray.data_append]
      apply Array.toList_inj.1
      rw [Array.toList_append]; exact hc.symm
    cases c; cases h2 : a ++ b; rw [h2] at e1; exact congrArg ByteArray.mk e1
  have h2 : ¬ (((a.size + b.size : Nat) : Int) > IntKind.i64.max) := by
    have : IntKind.i64.max = 9223372036854775807 := by decide
    rw [this]; omega
  unfold Op.stringOp
  simp only [if_neg h2, e]
  rfl
def OpC (d : Nat) : Prop := ∀ (t : T d) (m : Nat) (w : World), Cl d t → sdC d t = true → m ≤ 6 → (aroX d t m).length ≤ 1000000 → Pow w → Calls Tryz.prog 37 #[exV d t, .int .i64 (m : Int)] w fun e w' => e = .returned (.string ⟨(aroX d t m).toArray⟩) ∧ Below w.heap.size w w'
def BtC (d : Nat) : Prop := ∀ (s : ByteArray) (p q : T d) (w : World), Cl d p → Cl d q → sdC d p = true → sdC d q = true → (txtC (d + 1) (mkT 5 0 s [p, q])).length ≤ 1000000 → Pow w → Calls Tryz.prog 38 #[.agg #[.string s, exV d p, exV d q]] w fun e w' => e = .returned (.string ⟨(txtC (d + 1) (mkT 5 0 s [p, q])).toArray⟩) ∧ Below w.heap.size w w'
def TxC (d : Nat) : Prop := ∀ (t : T d) (w : World), Cl d t → sdC d t = true → (txtC d t).length ≤ 1000000 → Pow w → Calls Tryz.prog 21 #[exV d t] w fun e w' => e = .returned (.string ⟨(txtC d t).toArray⟩) ∧ Below w.heap.size w w'
set_option maxRecDepth 100000 in
set_option maxHeartbeats 4000000 in
theorem bin_step (d : Nat) (IH : OpC d) : BtC d := by
  intro s p q w hp hq sp sq hln hw
  have hlv := fun w1 => pLevel_any s w1
  have hI := fun m w1 hm hl hw1 => IH p m w1 hp sp hm hl hw1
  have hJ := fun m w1 hm hl hw1 => IH q m w1 hq sq hm hl hw1
  obtain ⟨pu, py, hpe⟩ := sd_iface hp sp
  obtain ⟨qu, qy, hqe⟩ := sd_iface hq sq
  rw [hpe, hqe]
  simp only [hpe] at hI
  simp only [hqe] at hJ
  clear hpe hqe
  have hl5 : lv (bl s) ≤ 5 := lv_le _
  obtain ⟨k, hk⟩ : ∃ k, lv (bl s) = k := ⟨_, rfl⟩
  rw [hk] at hl5
  simp only [hk] at hlv
  have hT : txtC (d + 1) (mkT 5 0 s [p, q]) = aroX d p (if k = 3 then 4 else k) ++ 32 :: (bl s ++ 32 :: aroX d q (k + 1)) := by
    rw [← hk]; exact txt_bin s p q
  obtain ⟨TX, hTX⟩ : ∃ TX, txtC (d + 1) (mkT 5 0 s [p, q]) = TX := ⟨_, rfl⟩
  rw [hTX] at hT hln ⊢
  clear hTX
  by_cases h3 : k = 3
  · subst h3
    have hIm := fun w1 h1 h => hI 4 w1 (by omega) h1 h
    have hJm := fun w1 h1 h => hJ 4 w1 (by omega) h1 h
    rw [if_pos rfl] at hT
    simp only [show ((4 : Nat) : Int) = 4 from rfl] at hIm hJm
    generalize aroX d p 4 = A at hT hIm
    generalize aroX d q 4 = B at hT hJm
    clear hI hJ
    have hlA : A.length ≤ 1000000 := by have := congrArg List.length hT; simp only [List.length_append, List.length_cons] at this; omega
    have hlB : B.length ≤ 1000000 := by have := congrArg List.length hT; simp only [List.length_append, List.length_cons] at this; omega
    replace hIm := fun w1 h => hIm w1 hlA h
    replace hJm := fun w1 h => hJm w1 hlB h
    clear hlA hlB
    have hA : A.length + B.length + (bl s).length + 2 ≤ 1000000 := by
      have := congrArg List.length hT
      simp only [List.length_append, List.length_cons] at this
      omega
    obtain ⟨bA, hbA⟩ : ∃ bA : ByteArray, ⟨A.toArray⟩ = bA := ⟨_, rfl⟩
    obtain ⟨bB, hbB⟩ : ∃ bB : ByteArray, ⟨B.toArray⟩ = bB := ⟨_, rfl⟩
    have hAe : bl bA = A := by rw [← hbA]
    have hBe : bl bB = B := by rw [← hbB]
    have a1 := add_ok bA ⟨#[32]⟩ ⟨(A ++ [32]).toArray⟩ (by rw [hAe]; show A.length + 1 ≤ _; omega) (by rw [hAe])
    have a2 := add_ok ⟨(A ++ [32]).toArray⟩ s ⟨(A ++ [32] ++ bl s).toArray⟩ (by show (A ++ [32]).length + _ ≤ _; simp only [List.length_append, List.length_cons, List.length_nil]; omega) rfl
    have a3 := add_ok ⟨(A ++ [32] ++ bl s).toArray⟩ ⟨#[32]⟩ ⟨(A ++ [32] ++ bl s ++ [32]).toArray⟩ (by show (A ++ [32] ++ bl s).length + 1 ≤ _; simp only [List.length_append, List.length_cons, List.length_nil]; omega) rfl
    have a4 := add_ok ⟨(A ++ [32] ++ bl s ++ [32]).toArray⟩ bB ⟨TX.toArray⟩ (by rw [hBe]; show (A ++ [32] ++ bl s ++ [32]).length + _ ≤ _; simp only [List.length_append, List.length_cons, List.length_nil]; omega) (by rw [hBe]; show TX = A ++ [32] ++ bl s ++ [32] ++ B; rw [hT]; simp)
    rw [hbA] at hIm
    rw [hbB] at hJm
    clear hT hA hAe hBe hbA hbB hln
    generalize (⟨(A ++ [32]).toArray⟩ : ByteArray) = x1 at *
    generalize (⟨(A ++ [32] ++ bl s).toArray⟩ : ByteArray) = x2 at *
    generalize (⟨(A ++ [32] ++ bl s ++ [32]).toArray⟩ : ByteArray) = x3 at *
    generalize (⟨TX.toArray⟩ : ByteArray) = x4 at *
    rw [show (4 : Int) = IntKind.i64.wrap 4 from by decide] at hJm
    go_enter Tryz.func38, Tryz.ntmps38
    go_wp2_with (first | (go_at_call 54; refine (hlv _).mono ?_; rintro e w2 ⟨rfl, rfl⟩))
    have hc := cell3_at w (.string s) (.iface pu py) (.iface qu qy) 43 w.heap.size rfl
    have b1 := (Below.refl w.heap.size w).alloc (Nat.le_refl _) (.cells #[.string s, .iface pu py, .iface qu qy] 43)
    have hw1 := hw.below b1
    clear hlv
    generalize w.alloc (.cells #[.string s, .iface pu py, .iface qu qy] 43) = w1 at *
    obtain ⟨c1, c2, c3⟩ := hc
    have bd : Below w1.heap.size w1 w1.drew := (Below.refl _ _).drew
    have b1 := bthen b1 bd
    have s1 := hIm w1.drew (hw1.below bd)
    go_region_held_law (fun w' => w'.cell? ⟨w.heap.size, 0, none⟩ = some (.string s) ∧ w'.cell? ⟨w.heap.size, 1, none⟩ = some (.iface pu py) ∧ w'.cell? ⟨w.heap.size, 2, none⟩ = some (.iface qu qy))
      (first | (with_reducible exact ⟨c1, c2, c3⟩) | (with_reducible exact ⟨d1, d2, d3⟩) | (with_reducible exact ⟨e1, e2, e3⟩) | go_keep)
      ((first
        | (go_at_call 37; (with_reducible refine s1.mono ?_); rintro e w3 ⟨rfl, b3⟩; have d1 := (b3.cell (p := ⟨w.heap.size, 0, none⟩) (World.block_lt_of_cell? w1 _ c1)).trans c1; have d2 := (b3.cell (p := ⟨w.heap.size, 1, none⟩) (World.block_lt_of_cell? w1 _ c2)).trans c2; have d3 := (b3.cell (p := ⟨w.heap.size, 2, none⟩) (World.block_lt_of_cell? w1 _ c3)).trans c3; have b4 := bthen b1 b3; have s2 := hJm w3 ((hw1.below bd).below b3); clear s1)
        | (go_at_call 37; (with_reducible refine s2.mono ?_); rintro e w4 ⟨rfl, b5⟩; have e1 := (b5.cell (p := ⟨w.heap.size, 0, none⟩) (World.block_lt_of_cell? _ _ d1)).trans d1; have e2 := (b5.cell (p := ⟨w.heap.size, 1, none⟩) (World.block_lt_of_cell? _ _ d2)).trans d2; have e3 := (b5.cell (p := ⟨w.heap.size, 2, none⟩) (World.block_lt_of_cell? _ _ d3)).trans d3; have b6 := bthen b4 b5; clear s2)))
    go_wp2
    go_ret
    exact ⟨rfl, b6⟩
  · have hIm := fun w1 h1 h => hI k w1 (by omega) h1 h
    have hJm := fun w1 h1 h => hJ (k + 1) w1 (by omega) h1 h
    rw [if_neg h3] at hT
    simp only [Int.natCast_add, show ((1 : Nat) : Int) = 1 from rfl] at hJm
    generalize aroX d p k = A at hT hIm
    generalize aroX d q (k + 1) = B at hT hJm
    have h3' : (k : Int) ≠ 3 := by omega
    clear hI hJ
    have hlA : A.length ≤ 1000000 := by have := congrArg List.length hT; simp only [List.length_append, List.length_cons] at this; omega
    have hlB : B.length ≤ 1000000 := by have := congrArg List.length hT; simp only [List.length_append, List.length_cons] at this; omega
    replace hIm := fun w1 h => hIm w1 hlA h
    replace hJm := fun w1 h => hJm w1 hlB h
    clear hlA hlB
    have hA : A.length + B.length + (bl s).length + 2 ≤ 1000000 := by
      have := congrArg List.length hT
      simp only [List.length_append, List.length_cons] at this
      omega
    obtain ⟨bA, hbA⟩ : ∃ bA : ByteArray, ⟨A.toArray⟩ = bA := ⟨_, rfl⟩
    obtain ⟨bB, hbB⟩ : ∃ bB : ByteArray, ⟨B.toArray⟩ = bB := ⟨_, rfl⟩
    have hAe : bl bA = A := by rw [← hbA]
    have hBe : bl bB = B := by rw [← hbB]
    have a1 := add_ok bA ⟨#[32]⟩ ⟨(A ++ [32]).toArray⟩ (by rw [hAe]; show A.length + 1 ≤ _; omega) (by rw [hAe])
    have a2 := add_ok ⟨(A ++ [32]).toArray⟩ s ⟨(A ++ [32] ++ bl s).toArray⟩ (by show (A ++ [32]).length + _ ≤ _; simp only [List.length_append, List.length_cons, List.length_nil]; omega) rfl
    have a3 := add_ok ⟨(A ++ [32] ++ bl s).toArray⟩ ⟨#[32]⟩ ⟨(A ++ [32] ++ bl s ++ [32]).toArray⟩ (by show (A ++ [32] ++ bl s).length + 1 ≤ _; simp only [List.length_append, List.length_cons, List.length_nil]; omega) rfl
    have a4 := add_ok ⟨(A ++ [32] ++ bl s ++ [32]).toArray⟩ bB ⟨TX.toArray⟩ (by rw [hBe]; show (A ++ [32] ++ bl s ++ [32]).length + _ ≤ _; simp only [List.length_append, List.length_cons, List.length_nil]; omega) (by rw [hBe]; show TX = A ++ [32] ++ bl s ++ [32] ++ B; rw [hT]; simp)
    rw [hbA] at hIm
    rw [hbB] at hJm
    clear hT hA hAe hBe hbA hbB hln
    generalize (⟨(A ++ [32]).toArray⟩ : ByteArray) = x1 at *
    generalize (⟨(A ++ [32] ++ bl s).toArray⟩ : ByteArray) = x2 at *
    generalize (⟨(A ++ [32] ++ bl s ++ [32]).toArray⟩ : ByteArray) = x3 at *
    generalize (⟨TX.toArray⟩ : ByteArray) = x4 at *
    rw [show ((k : Int) + 1) = IntKind.i64.wrap ((k : Int) + 1) from (wrap_small _ (by omega) (by omega)).symm] at hJm
    go_enter Tryz.func38, Tryz.ntmps38
    go_wp2_with (first | (go_at_call 54; refine (hlv _).mono ?_; rintro e w2 ⟨rfl, rfl⟩))
    have hc := cell3_at w (.string s) (.iface pu py) (.iface qu qy) 43 w.heap.size rfl
    have b1 := (Below.refl w.heap.size w).alloc (Nat.le_refl _) (.cells #[.string s, .iface pu py, .iface qu qy] 43)
    have hw1 := hw.below b1
    clear hlv
    generalize w.alloc (.cells #[.string s, .iface pu py, .iface qu qy] 43) = w1 at *
    obtain ⟨c1, c2, c3⟩ := hc
    have bd : Below w1.heap.size w1 w1.drew := (Below.refl _ _).drew
    have b1 := bthen b1 bd
    have s1 := hIm w1.drew (hw1.below bd)
    go_region_held_law (fun w' => w'.cell? ⟨w.heap.size, 0, none⟩ = some (.string s) ∧ w'.cell? ⟨w.heap.size, 1, none⟩ = some (.iface pu py) ∧ w'.cell? ⟨w.heap.size, 2, none⟩ = some (.iface qu qy))
      (first | (with_reducible exact ⟨c1, c2, c3⟩) | (with_reducible exact ⟨d1, d2, d3⟩) | (with_reducible exact ⟨e1, e2, e3⟩) | go_keep)
      ((first
        | (go_at_call 37; (with_reducible refine s1.mono ?_); rintro e w3 ⟨rfl, b3⟩; have d1 := (b3.cell (p := ⟨w.heap.size, 0, none⟩) (World.block_lt_of_cell? w1 _ c1)).trans c1; have d2 := (b3.cell (p := ⟨w.heap.size, 1, none⟩) (World.block_lt_of_cell? w1 _ c2)).trans c2; have d3 := (b3.cell (p := ⟨w.heap.size, 2, none⟩) (World.block_lt_of_cell? w1 _ c3)).trans c3; have b4 := bthen b1 b3; have s2 := hJm w3 ((hw1.below bd).below b3); clear s1)
        | (go_at_call 37; (with_reducible refine s2.mono ?_); rintro e w4 ⟨rfl, b5⟩; have e1 := (b5.cell (p := ⟨w.heap.size, 0, none⟩) (World.block_lt_of_cell? _ _ d1)).trans d1; have e2 := (b5.cell (p := ⟨w.heap.size, 1, none⟩) (World.block_lt_of_cell? _ _ d2)).trans d2; have e3 := (b5.cell (p := ⟨w.heap.size, 2, none⟩) (World.block_lt_of_cell? _ _ d3)).trans d3; have b6 := bthen b4 b5; clear s2)))
    go_wp2
    go_ret
    exact ⟨rfl, b6⟩
theorem aro_same {d : Nat} {k n : Int} {s : ByteArray} {ps : List (T d)} {m : Nat} (hk : k ≠ 5) (hm : m ≤ 6) : aroX (d + 1) (mkT k n s ps) m = txtC (d + 1) (mkT k n s ps) := by
  unfold aroX aroP txtC
  rw [if_neg]
  show ¬ (if k = 5 then lv s.data.toList else 6) < m
  rw [if_neg hk]; omega
theorem aro_bin {d : Nat} {s : ByteArray} {p q : T d} {m : Nat} : aroX (d + 1) (mkT 5 0 s [p, q]) m = if lv (bl s) < m then 40 :: (txtC (d + 1) (mkT 5 0 s [p, q]) ++ [41]) else txtC (d + 1) (mkT 5 0 s [p, q]) := by
  have e : (pcs dcN (d + 1) (mkT 5 0 s [p, q])).1 = lv (bl s) := rfl
  unfold aroX aroP txtC
  rw [e]
  split
  · rw [txP_cons, txP_app]; rfl
  · rfl
theorem ba_app (a b : List UInt8) : (⟨a.toArray⟩ : ByteArray) ++ ⟨b.toArray⟩ = ⟨(a ++ b).toArray⟩ := by
  have e1 : ((⟨a.toArray⟩ : ByteArray) ++ ⟨b.toArray⟩).data = (a ++ b).toArray := by
    rw [ByteArray.data_append]
    apply Array.toList_inj.1
    rw [Array.toList_append]
  cases h2 : (⟨a.toArray⟩ : ByteArray) ++ ⟨b.toArray⟩
  rw [h2] at e1
  exact congrArg ByteArray.mk e1
theorem ba_one (x : UInt8) (X : List UInt8) : (⟨#[x]⟩ ++ ⟨X.toArray⟩ : ByteArray) = ⟨(x :: X).toArray⟩ := ba_app [x] X
theorem ba_par (X : List UInt8) : (⟨#[40]⟩ ++ ⟨X.toArray⟩ ++ ⟨#[41]⟩ : ByteArray) = ⟨(40 :: (X ++ [41])).toArray⟩ :=
  (congrArg (fun b : ByteArray => b ++ ⟨#[41]⟩) (ba_one 40 X)).trans (ba_app (40 :: X) [41])
theorem as_lit_bin (w : World) (n : Value) : (Instr.typeAssert (.iface 41 (.agg #[n])) 31 43 true).run Tryz.prog w = .ok (.tuple #[.agg #[.string ⟨#[]⟩, .nilIface, .nilIface], .bool false]) w := by kernel_rfl
theorem as_ref_bin (w : World) (n : Value) : (Instr.typeAssert (.iface 52 (.agg #[n])) 31 43 true).run Tryz.prog w = .ok (.tuple #[.agg #[.string ⟨#[]⟩, .nilIface, .nilIface], .bool false]) w := by kernel_rfl
theorem as_not_bin (w : World) (n : Value) : (Instr.typeAssert (.iface 54 (.agg #[n])) 31 43 true).run Tryz.prog w = .ok (.tuple #[.agg #[.string ⟨#[]⟩, .nilIface, .nilIface], .bool false]) w := by kernel_rfl
theorem as_neg_bin (w : World) (n : Value) : (Instr.typeAssert (.iface 55 (.agg #[n])) 31 43 true).run Tryz.prog w = .ok (.tuple #[.agg #[.string ⟨#[]⟩, .nilIface, .nilIface], .bool false]) w := by kernel_rfl
attribute [local go_sem] as_lit_bin as_ref_bin as_not_bin as_neg_bin
set_option maxRecDepth 100000 in
set_option maxHeartbeats 4000000 in
theorem op_step (d : Nat) (HB : BtC d) (HX : TxC (d + 1)) : OpC (d + 1) := by
  intro t m w hc hs hm hl hw
  have hX := fun w1 hl1 hw1 => HX t w1 hc hs hl1 hw1
  have bz := (Below.refl w.heap.size w).alloc (Nat.le_refl _) (.cells #[.string ⟨#[]⟩, .nilIface, .nilIface] 43)
  have hwz := hw.below bz
  rcases hc.cases with ⟨n, rfl⟩ | ⟨s, rfl⟩ | ⟨k, p, hk, rfl, hp⟩ | ⟨s, p, q, rfl, hp, hq⟩ | rfl
  · have e : exV (d + 1) (mkT 1 n ⟨#[]⟩ [] : T (d + 1)) = .iface 41 (.agg #[.int .i64 n]) := rfl
    rw [aro_same (by decide) hm] at hl ⊢
    replace hX := fun w1 hw1 => hX w1 hl hw1
    rw [e] at hX ⊢
    generalize txtC (d + 1) (mkT 1 n ⟨#[]⟩ [] : T (d + 1)) = X at *
    clear e hs hc
    go_enter Tryz.func37, Tryz.ntmps37
    go_wp2_with (first | (go_at_call 21; refine (hX _ hwz).mono ?_; rintro e w2 ⟨rfl, b2⟩))
    go_ret
    exact ⟨rfl, bthen bz b2⟩
  · have e : exV (d + 1) (mkT 2 0 s [] : T (d + 1)) = .iface 52 (.agg #[.string s]) := rfl
    rw [aro_same (by decide) hm] at hl ⊢
    replace hX := fun w1 hw1 => hX w1 hl hw1
    rw [e] at hX ⊢
    generalize txtC (d + 1) (mkT 2 0 s [] : T (d + 1)) = X at *
    clear e hs hc
    go_enter Tryz.func37, Tryz.ntmps37
    go_wp2_with (first | (go_at_call 21; refine (hX _ hwz).mono ?_; rintro e w2 ⟨rfl, b2⟩))
    go_ret
    exact ⟨rfl, bthen bz b2⟩
  · rcases hk with rfl | rfl
    · have e : exV (d + 1) (mkT 3 0 ⟨#[]⟩ [p] : T (d + 1)) = .iface 54 (.agg #[exV d p]) := rfl
      rw [aro_same (by decide) hm] at hl ⊢
      replace hX := fun w1 hw1 => hX w1 hl hw1
      rw [e] at hX ⊢
      generalize txtC (d + 1) (mkT 3 0 ⟨#[]⟩ [p] : T (d + 1)) = X at *
      generalize exV d p = pv at *
      clear e hs hc
      go_enter Tryz.func37, Tryz.ntmps37
      go_wp2_with (first | (go_at_call 21; refine (hX _ hwz).mono ?_; rintro e w2 ⟨rfl, b2⟩))
      go_ret
      exact ⟨rfl, bthen bz b2⟩
    · have e : exV (d + 1) (mkT 4 0 ⟨#[]⟩ [p] : T (d + 1)) = .iface 55 (.agg #[exV d p]) := rfl
      rw [aro_same (by decide) hm] at hl ⊢
      replace hX := fun w1 hw1 => hX w1 hl hw1
      rw [e] at hX ⊢
      generalize txtC (d + 1) (mkT 4 0 ⟨#[]⟩ [p] : T (d + 1)) = X at *
      generalize exV d p = pv at *
      clear e hs hc
      go_enter Tryz.func37, Tryz.ntmps37
      go_wp2_with (first | (go_at_call 21; refine (hX _ hwz).mono ?_; rintro e w2 ⟨rfl, b2⟩))
      go_ret
      exact ⟨rfl, bthen bz b2⟩
  · have sd := hs
    rw [sdC_mk, if_neg (by decide), if_neg (by decide), if_neg (by decide), if_pos rfl] at sd
    simp only [List.all_cons, List.all_nil, Bool.and_true, Bool.and_eq_true] at sd
    obtain ⟨_, sp, sq⟩ := sd
    have hB := fun w1 hl1 hw1 => HB s p q w1 hp hq sp sq hl1 hw1
    have hlv := fun w1 => pLevel_any s w1
    rw [aro_bin] at hl ⊢
    have e : exV (d + 1) (mkT 5 0 s [p, q] : T (d + 1)) = .iface 43 (.agg #[.string s, exV d p, exV d q]) := rfl
    rw [e] at hX ⊢
    obtain ⟨pu, py, hpe⟩ := sd_iface hp sp
    obtain ⟨qu, qy, hqe⟩ := sd_iface hq sq
    rw [hpe, hqe] at hX hB ⊢
    generalize txtC (d + 1) (mkT 5 0 s [p, q] : T (d + 1)) = X at *
    clear e hs hc hpe hqe
    have bz := (Below.refl w.heap.size w).alloc (Nat.le_refl _) (.cells #[.string s, .iface pu py, .iface qu qy] 43)
    have hwz := hw.below bz
    by_cases hlt : lv (bl s) < m
    · rw [if_pos hlt] at hl ⊢
      have hl2 : X.length + 2 ≤ 1000000 := by simpa using hl
      replace hB := fun w1 hw1 => hB w1 (by omega) hw1
      have hlt' : ((lv (bl s) : Nat) : Int) < (m : Int) := by omega
      go_enter Tryz.func37, Tryz.ntmps37
      go_wp2_with (first
        | (go_at_call 54; refine (hlv _).mono ?_; rintro e w2 ⟨rfl, rfl⟩)
        | (go_at_call 38; refine (hB _ hwz).mono ?_; rintro e w2 ⟨rfl, b2⟩))
      go_ret
      exact ⟨congrArg (fun b => Ending.returned (.string b)) (ba_par X), bthen bz b2⟩
    · rw [if_neg hlt] at hl ⊢
      replace hX := fun w1 hw1 => hX w1 hl hw1
      have hlt' : ¬ ((lv (bl s) : Nat) : Int) < (m : Int) := by omega
      go_enter Tryz.func37, Tryz.ntmps37
      go_wp2_with (first
        | (go_at_call 54; refine (hlv _).mono ?_; rintro e w2 ⟨rfl, rfl⟩)
        | (go_at_call 21; refine (hX _ hwz).mono ?_; rintro e w2 ⟨rfl, b2⟩))
      go_ret
      exact ⟨rfl, bthen bz b2⟩
  · exact absurd hs (by simp [none0, sdC_mk])
set_option maxRecDepth 100000 in
set_option maxHeartbeats 4000000 in
theorem tx_step (d : Nat) (HO : OpC d) (HB : BtC d) : TxC (d + 1) := by
  intro t w hc hs hl hw
  rcases hc.cases with ⟨n, rfl⟩ | ⟨s, rfl⟩ | ⟨k, p, hk, rfl, hp⟩ | ⟨s, p, q, rfl, hp, hq⟩ | rfl
  · have e : exV (d + 1) (mkT 1 n ⟨#[]⟩ [] : T (d + 1)) = .iface 41 (.agg #[.int .i64 n]) := rfl
    have eT : txtC (d + 1) (mkT 1 n ⟨#[]⟩ [] : T (d + 1)) = dcN n := by
      show txP [some (2, dcN n)] = dcN n
      rw [txP_cons]; exact List.append_nil _
    rw [eT, e]
    rw [sdC_mk, if_pos rfl] at hs
    simp only [Bool.and_eq_true, decide_eq_true_eq] at hs
    have hF := fun w1 h => fmt_any hs.1 hs.2 w1 h
    have bz := (Below.refl w.heap.size w).alloc (Nat.le_refl _) (.cells #[.int .i64 n] 41)
    have hwz := hw.below bz
    generalize dcN n = X at *
    clear e hc eT
    go_enter Tryz.func21, Tryz.ntmps21
    go_wp2_with (first | (go_at_call 35; refine (hF _ hwz).mono ?_; rintro e w2 ⟨rfl, b2⟩))
    go_ret
    exact ⟨rfl, bthen bz b2⟩
  · have e : exV (d + 1) (mkT 2 0 s [] : T (d + 1)) = .iface 52 (.agg #[.string s]) := rfl
    have eT : (⟨(txtC (d + 1) (mkT 2 0 s [] : T (d + 1))).toArray⟩ : ByteArray) = s := by
      have : txtC (d + 1) (mkT 2 0 s [] : T (d + 1)) = s.data.toList := by
        show txP [some (1, s.data.toList)] = _
        rw [txP_cons]; exact List.append_nil _
      rw [this]
    rw [eT, e]
    have hsz : s.size ≤ 1000000 := by
      have h1 := hl
      rw [show txtC (d + 1) (mkT 2 0 s [] : T (d + 1)) = s.data.toList from by show txP [some (1, s.data.toList)] = _; rw [txP_cons]; exact List.append_nil _] at h1
      exact h1
    have hC := fun w1 => pClone_any s w1 (by omega)
    have bz := (Below.refl w.heap.size w).alloc (Nat.le_refl _) (.cells #[.string s] 52)
    clear e hc eT hs
    go_enter Tryz.func21, Tryz.ntmps21
    go_wp2_with (first | (go_at_call 36; refine (hC _).mono ?_; rintro e w2 ⟨rfl, b2⟩))
    go_ret
    exact ⟨rfl, bthen bz b2⟩
  · rcases hk with rfl | rfl
    · have e : exV (d + 1) (mkT 3 0 ⟨#[]⟩ [p] : T (d + 1)) = .iface 54 (.agg #[exV d p]) := rfl
      have sp : sdC d p = true := by
        rw [sdC_mk, if_neg (by decide), if_neg (by decide), if_pos (by decide)] at hs
        simpa using hs
      have eT : txtC (d + 1) (mkT 3 0 ⟨#[]⟩ [p] : T (d + 1)) = 33 :: aroX d p 6 := rfl
      rw [eT] at hl ⊢
      have hl2 : (aroX d p 6).length + 1 ≤ 1000000 := by simpa using hl
      have hO := fun w1 hw1 => HO p 6 w1 hp sp (by omega) (by omega) hw1
      obtain ⟨pu, py, hpe⟩ := sd_iface hp sp
      rw [e, hpe]
      simp only [hpe, show ((6 : Nat) : Int) = 6 from rfl] at hO
      generalize aroX d p 6 = X at *
      clear e hpe hs hc eT
      have bz := (Below.refl w.heap.size w).alloc (Nat.le_refl _) (.cells #[.iface pu py] 54)
      have hwz := hw.below bz
      go_enter Tryz.func21, Tryz.ntmps21
      go_wp2_with (first | (go_at_call 37; refine (hO _ hwz).mono ?_; rintro e w2 ⟨rfl, b2⟩))
      go_ret
      exact ⟨congrArg (fun b => Ending.returned (.string b)) (ba_one _ X), bthen bz b2⟩
    · have e : exV (d + 1) (mkT 4 0 ⟨#[]⟩ [p] : T (d + 1)) = .iface 55 (.agg #[exV d p]) := rfl
      have sp : sdC d p = true := by
        rw [sdC_mk, if_neg (by decide), if_neg (by decide), if_pos (by decide)] at hs
        simpa using hs
      have eT : txtC (d + 1) (mkT 4 0 ⟨#[]⟩ [p] : T (d + 1)) = 45 :: aroX d p 6 := rfl
      rw [eT] at hl ⊢
      have hl2 : (aroX d p 6).length + 1 ≤ 1000000 := by simpa using hl
      have hO := fun w1 hw1 => HO p 6 w1 hp sp (by omega) (by omega) hw1
      obtain ⟨pu, py, hpe⟩ := sd_iface hp sp
      rw [e, hpe]
      simp only [hpe, show ((6 : Nat) : Int) = 6 from rfl] at hO
      generalize aroX d p 6 = X at *
      clear e hpe hs hc eT
      have bz := (Below.refl w.heap.size w).alloc (Nat.le_refl _) (.cells #[.iface pu py] 55)
      have hwz := hw.below bz
      go_enter Tryz.func21, Tryz.ntmps21
      go_wp2_with (first | (go_at_call 37; refine (hO _ hwz).mono ?_; rintro e w2 ⟨rfl, b2⟩))
      go_ret
      exact ⟨congrArg (fun b => Ending.returned (.string b)) (ba_one _ X), bthen bz b2⟩
  · have e : exV (d + 1) (mkT 5 0 s [p, q] : T (d + 1)) = .iface 43 (.agg #[.string s, exV d p, exV d q]) := rfl
    have sd := hs
    rw [sdC_mk, if_neg (by decide), if_neg (by decide), if_neg (by decide), if_pos rfl] at sd
    simp only [List.all_cons, List.all_nil, Bool.and_true, Bool.and_eq_true] at sd
    obtain ⟨_, sp, sq⟩ := sd
    have hB := fun w1 hw1 => HB s p q w1 hp hq sp sq hl hw1
    obtain ⟨pu, py, hpe⟩ := sd_iface hp sp
    obtain ⟨qu, qy, hqe⟩ := sd_iface hq sq
    rw [e]
    rw [hpe, hqe] at hB ⊢
    generalize txtC (d + 1) (mkT 5 0 s [p, q] : T (d + 1)) = X at *
    clear e hs hc hpe hqe
    have bz := (Below.refl w.heap.size w).alloc (Nat.le_refl _) (.cells #[.string s, .iface pu py, .iface qu qy] 43)
    have hwz := hw.below bz
    go_enter Tryz.func21, Tryz.ntmps21
    go_wp2_with (first | (go_at_call 38; refine (hB _ hwz).mono ?_; rintro e w2 ⟨rfl, b2⟩))
    go_ret
    exact ⟨rfl, bthen bz b2⟩
  · exact absurd hs (by simp [none0, sdC_mk])
theorem op_any : ∀ d, OpC d
  | 0 => fun t => Empty.elim t
  | d + 1 => op_step d (bin_step d (op_any d)) (tx_step d (op_any d) (bin_step d (op_any d)))
theorem text_any : ∀ d, TxC d
  | 0 => fun t => Empty.elim t
  | d + 1 => tx_step d (op_any d) (bin_step d (op_any d))
end Go.Proofs.YtiddccohldjjcaaGreatDoor
