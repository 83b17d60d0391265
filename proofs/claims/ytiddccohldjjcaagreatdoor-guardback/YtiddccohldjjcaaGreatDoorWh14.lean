import Derived.Test.YtiddccohldjjcaaGreatDoorWh05
import Derived.Test.YtiddccohldjjcaaGreatDoorWh06
import Derived.Test.YtiddccohldjjcaaGreatDoorWh13
import Derived.Test.YtiddccohldjjcaaGreatDoorWh07
import Derived.Test.YtiddccohldjjcaaGreatDoorWh09
import Derived.Deep.RegionHeldLaw
import Derived.Lib.AppendIntMem
import Derived.Test.YtiddccohldjjcaaGreatDoorRows
import Derived.Test.YtiddccohldjjcaaGreatDoorWh02
import Derived.Deep.LoopGhost

/- binText, operandText, textOf: the text of an expression. -/
namespace Go.Proofs.YtiddccohldjjcaaGreatDoor
open Go.RowKit Go.Lib
set_option linter.unusedSimpArgs false
set_option linter.unusedVariables false
attribute [local go_sem ↓] Go.wp_at_zero Go.wp_at_succ
attribute [local go_sem] as_lit_lit as_ref_lit as_ref_ref as_not_lit as_not_ref as_not_not as_neg_lit as_neg_ref as_neg_not as_neg_neg as_bin_lit as_bin_ref as_bin_not as_bin_neg as_bin_bin
/-- The table of powers of ten. -/
def Pow (w : World) : Prop := Lib.TabIs Tryz.prog w "internal/strconv.uint64pow10" .u64 Lib.pow10Tab
theorem Pow.below {w w' : World} (h : Pow w) (hb : Below w.heap.size w w') : Pow w' := tabBelow_of_tabIs h w' hb
theorem fmt_any {n : Int} (h0 : 0 ≤ n) (h1 : n ≤ 1000000000) (w : World) (hp : Pow w) :
    Calls Tryz.prog 35 #[.int .i64 n, .int .i64 10] w fun e w' => e = .returned (.string ⟨(dcN n).toArray⟩) ∧ Below w.heap.size w w' := by
  refine (Go.Proofs.Any.strconv_FormatInt_10 laysF n (by omega) (by omega) w hp).mono ?_
  rintro e w' ⟨rfl, k, os, rfl⟩
  refine ⟨?_, below_grow _ w (Nat.le_refl _) k os⟩
  unfold Lib.itoa dcN
  rw [if_neg (by omega)]
theorem sd_iface : ∀ {d : Nat} {t : T d}, Cl d t → sdC d t = true → ∃ u y, exV d t = .iface u y
  | 0, t, _, _ => Empty.elim t
  | d + 1, t, hc, h => by
    rcases exV_form (d + 1) t with h1 | h1
    · rcases hc.cases with ⟨n, rfl⟩ | ⟨s, rfl⟩ | ⟨k, p, hk, rfl, hp⟩ | ⟨s, p, q, rfl, hp, hq⟩ | rfl
      · exact ⟨_, _, rfl⟩
      · exact ⟨_, _, rfl⟩
      · rcases hk with rfl | rfl <;> exact ⟨_, _, rfl⟩
      · exact ⟨_, _, rfl⟩
      · exact absurd h (by simp [none0, sdC_mk])
    · exact h1
/-- An operand's text. -/
def aroX (d : Nat) (t : T d) (m : Nat) : List UInt8 := txP (aroP (pcs dcN d t) m)
theorem cell3_at (w : World) (a b c : Value) (t : TypeId) (n : Nat) (hn : n = w.heap.size) : (w.alloc (.cells #[a, b, c] t)).cell? ⟨n, 0, none⟩ = some a ∧ (w.alloc (.cells #[a, b, c] t)).cell? ⟨n, 1, none⟩ = some b ∧ (w.alloc (.cells #[a, b, c] t)).cell? ⟨n, 2, none⟩ = some c := by subst hn; simp
theorem txt_bin {d : Nat} (s : ByteArray) (p q : T d) : txtC (d + 1) (mkT 5 0 s [p, q]) = aroX d p (if lv (bl s) = 3 then 4 else lv (bl s)) ++ 32 :: (bl s ++ 32 :: aroX d q (lv (bl s) + 1)) := by
  show txP (pcF dcN 5 0 s [pcs dcN d p, pcs dcN d q]).2 = _
  show txP (aroP (pcs dcN d p) (if lv (bl s) = 3 then 4 else lv (bl s)) ++ none :: some (3, bl s) :: none :: aroP (pcs dcN d q) (lv (bl s) + 1)) = _
  rw [txP_app, txP_cons, txP_cons, txP_cons]
  rfl
theorem add_ok (a b c : ByteArray) (h : (bl a).length + (bl b).length ≤ 2000000) (hc : bl c = bl a ++ bl b) (W : World) : (Op.stringOp .add a b).run Tryz.prog W = .ok (.string c) W := by
  have h1 : a.size + b.size ≤ 2000000 := h
  have e : a ++ b = c := by
    have e1 : (a ++ b).data = c.data := by
      rw [ByteArray.data_append]
      apply Array.toList_inj.1
      rw [Array.toList_append]; exact hc.symm
    cases c; cases h2 : a ++ b; rw [h2] at e1; exact congrArg ByteArray.mk e1
  have h2 : ¬ (((a.size + b.size : Nat) : Int) > IntKind.i64.max) := by
    have : IntKind.i64.max = 9223372036854775807 := by decide
    rw [this]; omega
  unfold Op.stringOp
  simp only [if_neg h2, e]
  rfl
def OpC (d : Nat) : Prop := ∀ (t : T d) (m : Nat) (w : World), Cl d t → sdC d t = true → m ≤ 6 → (aroX d t m).length ≤ 1000000 → Pow w → Calls Tryz.prog 37 #[exV d t, .int .i64 (m : Int)] w fun e w' => e = .returned (.string ⟨(aroX d t m).toArray⟩) ∧ Below w.heap.size w w'
def BtC (d : Nat) : Prop := ∀ (s : ByteArray) (p q : T d) (w : World), Cl d p → Cl d q → sdC d p = true → sdC d q = true → (txtC (d + 1) (mkT 5 0 s [p, q])).length ≤ 1000000 → Pow w → Calls Tryz.prog 38 #[.agg #[.string s, exV d p, exV d q]] w fun e w' => e = .returned (.string ⟨(txtC (d + 1) (mkT 5 0 s [p, q])).toArray⟩) ∧ Below w.heap.size w w'
def TxC (d : Nat) : Prop := ∀ (t : T d) (w : World), Cl d t → sdC d t = true → (txtC d t).length ≤ 1000000 → Pow w → Calls Tryz.prog 21 #[exV d t] w fun e w' => e = .returned (.string ⟨(txtC d t).toArray⟩) ∧ Below w.heap.size w w'
set_option maxRecDepth 100000 in
set_option maxHeartbeats 4000000 in
theorem bin_step (d : Nat) (IH : OpC d) : BtC d := by
  intro s p q w hp hq sp sq hln hw
  have hlv := fun w1 => pLevel_any s w1
  have hI := fun m w1 hm hl hw1 => IH p m w1 hp sp hm hl hw1
  have hJ := fun m w1 hm hl hw1 => IH q m w1 hq sq hm hl hw1
  obtain ⟨pu, py, hpe⟩ := sd_iface hp sp
  obtain ⟨qu, qy, hqe⟩ := sd_iface hq sq
  rw [hpe, hqe]
  simp only [hpe] at hI
  simp only [hqe] at hJ
  clear hpe hqe
  have hl5 : lv (bl s) ≤ 5 := lv_le _
  obtain ⟨k, hk⟩ : ∃ k, lv (bl s) = k := ⟨_, rfl⟩
  rw [hk] at hl5
  simp only [hk] at hlv
  have hT : txtC (d + 1) (mkT 5 0 s [p, q]) = aroX d p (if k = 3 then 4 else k) ++ 32 :: (bl s ++ 32 :: aroX d q (k + 1)) := by
    rw [← hk]; exact txt_bin s p q
  obtain ⟨TX, hTX⟩ : ∃ TX, txtC (d + 1) (mkT 5 0 s [p, q]) = TX := ⟨_, rfl⟩
  rw [hTX] at hT hln ⊢
  clear hTX
  by_cases h3 : k = 3
  · subst h3
    have hIm := fun w1 h1 h => hI 4 w1 (by omega) h1 h
    have hJm := fun w1 h1 h => hJ 4 w1 (by omega) h1 h
    rw [if_pos rfl] at hT
    simp only [show ((4 : Nat) : Int) = 4 from rfl] at hIm hJm
    generalize aroX d p 4 = A at hT hIm
    generalize aroX d q 4 = B at hT hJm
    clear hI hJ
    have hlA : A.length ≤ 1000000 := by have := congrArg List.length hT; simp only [List.length_append, List.length_cons] at this; omega
    have hlB : B.length ≤ 1000000 := by have := congrArg List.length hT; simp only [List.length_append, List.length_cons] at this; omega
    replace hIm := fun w1 h => hIm w1 hlA h
    replace hJm := fun w1 h => hJm w1 hlB h
    clear hlA hlB
    have hA : A.length + B.length + (bl s).length + 2 ≤ 1000000 := by
      have := congrArg List.length hT
      simp only [List.length_append, List.length_cons] at this
      omega
    obtain ⟨bA, hbA⟩ : ∃ bA : ByteArray, ⟨A.toArray⟩ = bA := ⟨_, rfl⟩
    obtain ⟨bB, hbB⟩ : ∃ bB : ByteArray, ⟨B.toArray⟩ = bB := ⟨_, rfl⟩
    have hAe : bl bA = A := by rw [← hbA]
    have hBe : bl bB = B := by rw [← hbB]
    have a1 := add_ok bA ⟨#[32]⟩ ⟨(A ++ [32]).toArray⟩ (by rw [hAe]; show A.length + 1 ≤ _; omega) (by rw [hAe])
    have a2 := add_ok ⟨(A ++ [32]).toArray⟩ s ⟨(A ++ [32] ++ bl s).toArray⟩ (by show (A ++ [32]).length + _ ≤ _; simp only [List.length_append, List.length_cons, List.length_nil]; omega) rfl
    have a3 := add_ok ⟨(A ++ [32] ++ bl s).toArray⟩ ⟨#[32]⟩ ⟨(A ++ [32] ++ bl s ++ [32]).toArray⟩ (by show (A ++ [32] ++ bl s).length + 1 ≤ _; simp only [List.length_append, List.length_cons, List.length_nil]; omega) rfl
    have a4 := add_ok ⟨(A ++ [32] ++ bl s ++ [32]).toArray⟩ bB ⟨TX.toArray⟩ (by rw [hBe]; show (A ++ [32] ++ bl s ++ [32]).length + _ ≤ _; simp only [List.length_append, List.length_cons, List.length_nil]; omega) (by rw [hBe]; show TX = A ++ [32] ++ bl s ++ [32] ++ B; rw [hT]; simp)
    rw [hbA] at hIm
    rw [hbB] at hJm
    clear hT hA hAe hBe hbA hbB hln
    generalize (⟨(A ++ [32]).toArray⟩ : ByteArray) = x1 at *
    generalize (⟨(A ++ [32] ++ bl s).toArray⟩ : ByteArray) = x2 at *
    generalize (⟨(A ++ [32] ++ bl s ++ [32]).toArray⟩ : ByteArray) = x3 at *
    generalize (⟨TX.toArray⟩ : ByteArray) = x4 at *
    rw [show (4 : Int) = IntKind.i64.wrap 4 from by decide] at hJm
    go_enter Tryz.func38, Tryz.ntmps38
    go_wp2_with (first | (go_at_call 54; refine (hlv _).mono ?_; rintro e w2 ⟨rfl, rfl⟩))
    have hc := cell3_at w (.string s) (.iface pu py) (.iface qu qy) 43 w.heap.size rfl
    have b1 := (Below.refl w.heap.size w).alloc (Nat.le_refl _) (.cells #[.string s, .iface pu py, .iface qu qy] 43)
    have hw1 := hw.below b1
    clear hlv
    generalize w.alloc (.cells #[.string s, .iface pu py, .iface qu qy] 43) = w1 at *
    obtain ⟨c1, c2, c3⟩ := hc
    have bd : Below w1.heap.size w1 w1.drew := (Below.refl _ _).drew
    have b1 := bthen b1 bd
    have s1 := hIm w1.drew (hw1.below bd)
    go_region_held_law (fun w' => w'.cell? ⟨w.heap.size, 0, none⟩ = some (.string s) ∧ w'.cell? ⟨w.heap.size, 1, none⟩ = some (.iface pu py) ∧ w'.cell? ⟨w.heap.size, 2, none⟩ = some (.iface qu qy))
      (first | (with_reducible exact ⟨c1, c2, c3⟩) | (with_reducible exact ⟨d1, d2, d3⟩) | (with_reducible exact ⟨e1, e2, e3⟩) | go_keep)
      ((first
        | (go_at_call 37; (with_reducible refine s1.mono ?_); rintro e w3 ⟨rfl, b3⟩; have d1 := (b3.cell (p := ⟨w.heap.size, 0, none⟩) (World.block_lt_of_cell? w1 _ c1)).trans c1; have d2 := (b3.cell (p := ⟨w.heap.size, 1, none⟩) (World.block_lt_of_cell? w1 _ c2)).trans c2; have d3 := (b3.cell (p := ⟨w.heap.size, 2, none⟩) (World.block_lt_of_cell? w1 _ c3)).trans c3; have b4 := bthen b1 b3; have s2 := hJm w3 ((hw1.below bd).below b3); clear s1)
        | (go_at_call 37; (with_reducible refine s2.mono ?_); rintro e w4 ⟨rfl, b5⟩; have e1 := (b5.cell (p := ⟨w.heap.size, 0, none⟩) (World.block_lt_of_cell? _ _ d1)).trans d1; have e2 := (b5.cell (p := ⟨w.heap.size, 1, none⟩) (World.block_lt_of_cell? _ _ d2)).trans d2; have e3 := (b5.cell (p := ⟨w.heap.size, 2, none⟩) (World.block_lt_of_cell? _ _ d3)).trans d3; have b6 := bthen b4 b5; clear s2)))
    go_wp2
    go_ret
    exact ⟨rfl, b6⟩
  · have hIm := fun w1 h1 h => hI k w1 (by omega) h1 h
    have hJm := fun w1 h1 h => hJ (k + 1) w1 (by omega) h1 h
    rw [if_neg h3] at hT
    simp only [Int.natCast_add, show ((1 : Nat) : Int) = 1 from rfl] at hJm
    generalize aroX d p k = A at hT hIm
    generalize aroX d q (k + 1) = B at hT hJm
    have h3' : (k : Int) ≠ 3 := by omega
    clear hI hJ
    have hlA : A.length ≤ 1000000 := by have := congrArg List.length hT; simp only [List.length_append, List.length_cons] at this; omega
    have hlB : B.length ≤ 1000000 := by have := congrArg List.length hT; simp only [List.length_append, List.length_cons] at this; omega
    replace hIm := fun w1 h => hIm w1 hlA h
    replace hJm := fun w1 h => hJm w1 hlB h
    clear hlA hlB
    have hA : A.length + B.length + (bl s).length + 2 ≤ 1000000 := by
      have := congrArg List.length hT
      simp only [List.length_append, List.length_cons] at this
      omega
    obtain ⟨bA, hbA⟩ : ∃ bA : ByteArray, ⟨A.toArray⟩ = bA := ⟨_, rfl⟩
    obtain ⟨bB, hbB⟩ : ∃ bB : ByteArray, ⟨B.toArray⟩ = bB := ⟨_, rfl⟩
    have hAe : bl bA = A := by rw [← hbA]
    have hBe : bl bB = B := by rw [← hbB]
    have a1 := add_ok bA ⟨#[32]⟩ ⟨(A ++ [32]).toArray⟩ (by rw [hAe]; show A.length + 1 ≤ _; omega) (by rw [hAe])
    have a2 := add_ok ⟨(A ++ [32]).toArray⟩ s ⟨(A ++ [32] ++ bl s).toArray⟩ (by show (A ++ [32]).length + _ ≤ _; simp only [List.length_append, List.length_cons, List.length_nil]; omega) rfl
    have a3 := add_ok ⟨(A ++ [32] ++ bl s).toArray⟩ ⟨#[32]⟩ ⟨(A ++ [32] ++ bl s ++ [32]).toArray⟩ (by show (A ++ [32] ++ bl s).length + 1 ≤ _; simp only [List.length_append, List.length_cons, List.length_nil]; omega) rfl
    have a4 := add_ok ⟨(A ++ [32] ++ bl s ++ [32]).toArray⟩ bB ⟨TX.toArray⟩ (by rw [hBe]; show (A ++ [32] ++ bl s ++ [32]).length + _ ≤ _; simp only [List.length_append, List.length_cons, List.length_nil]; omega) (by rw [hBe]; show TX = A ++ [32] ++ bl s ++ [32] ++ B; rw [hT]; simp)
    rw [hbA] at hIm
    rw [hbB] at hJm
    clear hT hA hAe hBe hbA hbB hln
    generalize (⟨(A ++ [32]).toArray⟩ : ByteArray) = x1 at *
    generalize (⟨(A ++ [32] ++ bl s).toArray⟩ : ByteArray) = x2 at *
    generalize (⟨(A ++ [32] ++ bl s ++ [32]).toArray⟩ : ByteArray) = x3 at *
    generalize (⟨TX.toArray⟩ : ByteArray) = x4 at *
    rw [show ((k : Int) + 1) = IntKind.i64.wrap ((k : Int) + 1) from (wrap_small _ (by omega) (by omega)).symm] at hJm
    go_enter Tryz.func38, Tryz.ntmps38
    go_wp2_with (first | (go_at_call 54; refine (hlv _).mono ?_; rintro e w2 ⟨rfl, rfl⟩))
    have hc := cell3_at w (.string s) (.iface pu py) (.iface qu qy) 43 w.heap.size rfl
    have b1 := (Below.refl w.heap.size w).alloc (Nat.le_refl _) (.cells #[.string s, .iface pu py, .iface qu qy] 43)
    have hw1 := hw.below b1
    clear hlv
    generalize w.alloc (.cells #[.string s, .iface pu py, .iface qu qy] 43) = w1 at *
    obtain ⟨c1, c2, c3⟩ := hc
    have bd : Below w1.heap.size w1 w1.drew := (Below.refl _ _).drew
    have b1 := bthen b1 bd
    have s1 := hIm w1.drew (hw1.below bd)
    go_region_held_law (fun w' => w'.cell? ⟨w.heap.size, 0, none⟩ = some (.string s) ∧ w'.cell? ⟨w.heap.size, 1, none⟩ = some (.iface pu py) ∧ w'.cell? ⟨w.heap.size, 2, none⟩ = some (.iface qu qy))
      (first | (with_reducible exact ⟨c1, c2, c3⟩) | (with_reducible exact ⟨d1, d2, d3⟩) | (with_reducible exact ⟨e1, e2, e3⟩) | go_keep)
      ((first
        | (go_at_call 37; (with_reducible refine s1.mono ?_); rintro e w3 ⟨rfl, b3⟩; have d1 := (b3.cell (p := ⟨w.heap.size, 0, none⟩) (World.block_lt_of_cell? w1 _ c1)).trans c1; have d2 := (b3.cell (p := ⟨w.heap.size, 1, none⟩) (World.block_lt_of_cell? w1 _ c2)).trans c2; have d3 := (b3.cell (p := ⟨w.heap.size, 2, none⟩) (World.block_lt_of_cell? w1 _ c3)).trans c3; have b4 := bthen b1 b3; have s2 := hJm w3 ((hw1.below bd).below b3); clear s1)
        | (go_at_call 37; (with_reducible refine s2.mono ?_); rintro e w4 ⟨rfl, b5⟩; have e1 := (b5.cell (p := ⟨w.heap.size, 0, none⟩) (World.block_lt_of_cell? _ _ d1)).trans d1; have e2 := (b5.cell (p := ⟨w.heap.size, 1, none⟩) (World.block_lt_of_cell? _ _ d2)).trans d2; have e3 := (b5.cell (p := ⟨w.heap.size, 2, none⟩) (World.block_lt_of_cell? _ _ d3)).trans d3; have b6 := bthen b4 b5; clear s2)))
    go_wp2
    go_ret
    exact ⟨rfl, b6⟩
theorem aro_same {d : Nat} {k n : Int} {s : ByteArray} {ps : List (T d)} {m : Nat} (hk : k ≠ 5) (hm : m ≤ 6) : aroX (d + 1) (mkT k n s ps) m = txtC (d + 1) (mkT k n s ps) := by
  unfold aroX aroP txtC
  rw [if_neg]
  show ¬ (if k = 5 then lv s.data.toList else 6) < m
  rw [if_neg hk]; omega
theorem aro_bin {d : Nat} {s : ByteArray} {p q : T d} {m : Nat} : aroX (d + 1) (mkT 5 0 s [p, q]) m = if lv (bl s) < m then 40 :: (txtC (d + 1) (mkT 5 0 s [p, q]) ++ [41]) else txtC (d + 1) (mkT 5 0 s [p, q]) := by
  have e : (pcs dcN (d + 1) (mkT 5 0 s [p, q])).1 = lv (bl s) := rfl
  unfold aroX aroP txtC
  rw [e]
  split
  · rw [txP_cons, txP_app]; rfl
  · rfl
theorem ba_app (a b : List UInt8) : (⟨a.toArray⟩ : ByteArray) ++ ⟨b.toArray⟩ = ⟨(a ++ b).toArray⟩ := by
  have e1 : ((⟨a.toArray⟩ : ByteArray) ++ ⟨b.toArray⟩).data = (a ++ b).toArray := by
    rw [ByteArray.data_append]
    apply Array.toList_inj.1
    rw [Array.toList_append]
  cases h2 : (⟨a.toArray⟩ : ByteArray) ++ ⟨b.toArray⟩
  rw [h2] at e1
  exact congrArg ByteArray.mk e1
theorem ba_one (x : UInt8) (X : List UInt8) : (⟨#[x]⟩ ++ ⟨X.toArray⟩ : ByteArray) = ⟨(x :: X).toArray⟩ := ba_app [x] X
theorem ba_par (X : List UInt8) : (⟨#[40]⟩ ++ ⟨X.toArray⟩ ++ ⟨#[41]⟩ : ByteArray) = ⟨(40 :: (X ++ [41])).toArray⟩ :=
  (congrArg (fun b : ByteArray => b ++ ⟨#[41]⟩) (ba_one 40 X)).trans (ba_app (40 :: X) [41])
theorem as_lit_bin (w : World) (n : Value) : (Instr.typeAssert (.iface 41 (.agg #[n])) 31 43 true).run Tryz.prog w = .ok (.tuple #[.agg #[.string ⟨#[]⟩, .nilIface, .nilIface], .bool false]) w := by kernel_rfl
theorem as_ref_bin (w : World) (n : Value) : (Instr.typeAssert (.iface 52 (.agg #[n])) 31 43 true).run Tryz.prog w = .ok (.tuple #[.agg #[.string ⟨#[]⟩, .nilIface, .nilIface], .bool false]) w := by kernel_rfl
theorem as_not_bin (w : World) (n : Value) : (Instr.typeAssert (.iface 54 (.agg #[n])) 31 43 true).run Tryz.prog w = .ok (.tuple #[.agg #[.string ⟨#[]⟩, .nilIface, .nilIface], .bool false]) w := by kernel_rfl
theorem as_neg_bin (w : World) (n : Value) : (Instr.typeAssert (.iface 55 (.agg #[n])) 31 43 true).run Tryz.prog w = .ok (.tuple #[.agg #[.string ⟨#[]⟩, .nilIface, .nilIface], .bool false]) w := by kernel_rfl
attribute [local go_sem] as_lit_bin as_ref_bin as_not_bin as_neg_bin
set_option maxRecDepth 100000 in
set_option maxHeartbeats 4000000 in
theorem op_step (d : Nat) (HB : BtC d) (HX : TxC (d + 1)) : OpC (d + 1) := by
  intro t m w hc hs hm hl hw
  have hX := fun w1 hl1 hw1 => HX t w1 hc hs hl1 hw1
  have bz := (Below.refl w.heap.size w).alloc (Nat.le_refl _) (.cells #[.string ⟨#[]⟩, .nilIface, .nilIface] 43)
  have hwz := hw.below bz
  rcases hc.cases with ⟨n, rfl⟩ | ⟨s, rfl⟩ | ⟨k, p, hk, rfl, hp⟩ | ⟨s, p, q, rfl, hp, hq⟩ | rfl
  · have e : exV (d + 1) (mkT 1 n ⟨#[]⟩ [] : T (d + 1)) = .iface 41 (.agg #[.int .i64 n]) := rfl
    rw [aro_same (by decide) hm] at hl ⊢
    replace hX := fun w1 hw1 => hX w1 hl hw1
    rw [e] at hX ⊢
    generalize txtC (d + 1) (mkT 1 n ⟨#[]⟩ [] : T (d + 1)) = X at *
    clear e hs hc
    go_enter Tryz.func37, Tryz.ntmps37
    go_wp2_with (first | (go_at_call 21; refine (hX _ hwz).mono ?_; rintro e w2 ⟨rfl, b2⟩))
    go_ret
    exact ⟨rfl, bthen bz b2⟩
  · have e : exV (d + 1) (mkT 2 0 s [] : T (d + 1)) = .iface 52 (.agg #[.string s]) := rfl
    rw [aro_same (by decide) hm] at hl ⊢
    replace hX := fun w1 hw1 => hX w1 hl hw1
    rw [e] at hX ⊢
    generalize txtC (d + 1) (mkT 2 0 s [] : T (d + 1)) = X at *
    clear e hs hc
    go_enter Tryz.func37, Tryz.ntmps37
    go_wp2_with (first | (go_at_call 21; refine (hX _ hwz).mono ?_; rintro e w2 ⟨rfl, b2⟩))
    go_ret
    exact ⟨rfl, bthen bz b2⟩
  · rcases hk with rfl | rfl
    · have e : exV (d + 1) (mkT 3 0 ⟨#[]⟩ [p] : T (d + 1)) = .iface 54 (.agg #[exV d p]) := rfl
      rw [aro_same (by decide) hm] at hl ⊢
      replace hX := fun w1 hw1 => hX w1 hl hw1
      rw [e] at hX ⊢
      generalize txtC (d + 1) (mkT 3 0 ⟨#[]⟩ [p] : T (d + 1)) = X at *
      generalize exV d p = pv at *
      clear e hs hc
      go_enter Tryz.func37, Tryz.ntmps37
      go_wp2_with (first | (go_at_call 21; refine (hX _ hwz).mono ?_; rintro e w2 ⟨rfl, b2⟩))
      go_ret
      exact ⟨rfl, bthen bz b2⟩
    · have e : exV (d + 1) (mkT 4 0 ⟨#[]⟩ [p] : T (d + 1)) = .iface 55 (.agg #[exV d p]) := rfl
      rw [aro_same (by decide) hm] at hl ⊢
      replace hX := fun w1 hw1 => hX w1 hl hw1
      rw [e] at hX ⊢
      generalize txtC (d + 1) (mkT 4 0 ⟨#[]⟩ [p] : T (d + 1)) = X at *
      generalize exV d p = pv at *
      clear e hs hc
      go_enter Tryz.func37, Tryz.ntmps37
      go_wp2_with (first | (go_at_call 21; refine (hX _ hwz).mono ?_; rintro e w2 ⟨rfl, b2⟩))
      go_ret
      exact ⟨rfl, bthen bz b2⟩
  · have sd := hs
    rw [sdC_mk, if_neg (by decide), if_neg (by decide), if_neg (by decide), if_pos rfl] at sd
    simp only [List.all_cons, List.all_nil, Bool.and_true, Bool.and_eq_true] at sd
    obtain ⟨_, sp, sq⟩ := sd
    have hB := fun w1 hl1 hw1 => HB s p q w1 hp hq sp sq hl1 hw1
    have hlv := fun w1 => pLevel_any s w1
    rw [aro_bin] at hl ⊢
    have e : exV (d + 1) (mkT 5 0 s [p, q] : T (d + 1)) = .iface 43 (.agg #[.string s, exV d p, exV d q]) := rfl
    rw [e] at hX ⊢
    obtain ⟨pu, py, hpe⟩ := sd_iface hp sp
    obtain ⟨qu, qy, hqe⟩ := sd_iface hq sq
    rw [hpe, hqe] at hX hB ⊢
    generalize txtC (d + 1) (mkT 5 0 s [p, q] : T (d + 1)) = X at *
    clear e hs hc hpe hqe
    have bz := (Below.refl w.heap.size w).alloc (Nat.le_refl _) (.cells #[.string s, .iface pu py, .iface qu qy] 43)
    have hwz := hw.below bz
    by_cases hlt : lv (bl s) < m
    · rw [if_pos hlt] at hl ⊢
      have hl2 : X.length + 2 ≤ 1000000 := by simpa using hl
      replace hB := fun w1 hw1 => hB w1 (by omega) hw1
      have hlt' : ((lv (bl s) : Nat) : Int) < (m : Int) := by omega
      go_enter Tryz.func37, Tryz.ntmps37
      go_wp2_with (first
        | (go_at_call 54; refine (hlv _).mono ?_; rintro e w2 ⟨rfl, rfl⟩)
        | (go_at_call 38; refine (hB _ hwz).mono ?_; rintro e w2 ⟨rfl, b2⟩))
      go_ret
      exact ⟨congrArg (fun b => Ending.returned (.string b)) (ba_par X), bthen bz b2⟩
    · rw [if_neg hlt] at hl ⊢
      replace hX := fun w1 hw1 => hX w1 hl hw1
      have hlt' : ¬ ((lv (bl s) : Nat) : Int) < (m : Int) := by omega
      go_enter Tryz.func37, Tryz.ntmps37
      go_wp2_with (first
        | (go_at_call 54; refine (hlv _).mono ?_; rintro e w2 ⟨rfl, rfl⟩)
        | (go_at_call 21; refine (hX _ hwz).mono ?_; rintro e w2 ⟨rfl, b2⟩))
      go_ret
      exact ⟨rfl, bthen bz b2⟩
  · exact absurd hs (by simp [none0, sdC_mk])
set_option maxRecDepth 100000 in
set_option maxHeartbeats 4000000 in
theorem tx_step (d : Nat) (HO : OpC d) (HB : BtC d) : TxC (d + 1) := by
  intro t w hc hs hl hw
  rcases hc.cases with ⟨n, rfl⟩ | ⟨s, rfl⟩ | ⟨k, p, hk, rfl, hp⟩ | ⟨s, p, q, rfl, hp, hq⟩ | rfl
  · have e : exV (d + 1) (mkT 1 n ⟨#[]⟩ [] : T (d + 1)) = .iface 41 (.agg #[.int .i64 n]) := rfl
    have eT : txtC (d + 1) (mkT 1 n ⟨#[]⟩ [] : T (d + 1)) = dcN n := by
      show txP [some (2, dcN n)] = dcN n
      rw [txP_cons]; exact List.append_nil _
    rw [eT, e]
    rw [sdC_mk, if_pos rfl] at hs
    simp only [Bool.and_eq_true, decide_eq_true_eq] at hs
    have hF := fun w1 h => fmt_any hs.1 hs.2 w1 h
    have bz := (Below.refl w.heap.size w).alloc (Nat.le_refl _) (.cells #[.int .i64 n] 41)
    have hwz := hw.below bz
    generalize dcN n = X at *
    clear e hc eT
    go_enter Tryz.func21, Tryz.ntmps21
    go_wp2_with (first | (go_at_call 35; refine (hF _ hwz).mono ?_; rintro e w2 ⟨rfl, b2⟩))
    go_ret
    exact ⟨rfl, bthen bz b2⟩
  · have e : exV (d + 1) (mkT 2 0 s [] : T (d + 1)) = .iface 52 (.agg #[.string s]) := rfl
    have eT : (⟨(txtC (d + 1) (mkT 2 0 s [] : T (d + 1))).toArray⟩ : ByteArray) = s := by
      have : txtC (d + 1) (mkT 2 0 s [] : T (d + 1)) = s.data.toList := by
        show txP [some (1, s.data.toList)] = _
        rw [txP_cons]; exact List.append_nil _
      rw [this]
    rw [eT, e]
    have hsz : s.size ≤ 1000000 := by
      have h1 := hl
      rw [show txtC (d + 1) (mkT 2 0 s [] : T (d + 1)) = s.data.toList from by show txP [some (1, s.data.toList)] = _; rw [txP_cons]; exact List.append_nil _] at h1
      exact h1
    have hC := fun w1 => pClone_any s w1 (by omega)
    have bz := (Below.refl w.heap.size w).alloc (Nat.le_refl _) (.cells #[.string s] 52)
    clear e hc eT hs
    go_enter Tryz.func21, Tryz.ntmps21
    go_wp2_with (first | (go_at_call 36; refine (hC _).mono ?_; rintro e w2 ⟨rfl, b2⟩))
    go_ret
    exact ⟨rfl, bthen bz b2⟩
  · rcases hk with rfl | rfl
    · have e : exV (d + 1) (mkT 3 0 ⟨#[]⟩ [p] : T (d + 1)) = .iface 54 (.agg #[exV d p]) := rfl
      have sp : sdC d p = true := by
        rw [sdC_mk, if_neg (by decide), if_neg (by decide), if_pos (by decide)] at hs
        simpa using hs
      have eT : txtC (d + 1) (mkT 3 0 ⟨#[]⟩ [p] : T (d + 1)) = 33 :: aroX d p 6 := rfl
      rw [eT] at hl ⊢
      have hl2 : (aroX d p 6).length + 1 ≤ 1000000 := by simpa using hl
      have hO := fun w1 hw1 => HO p 6 w1 hp sp (by omega) (by omega) hw1
      obtain ⟨pu, py, hpe⟩ := sd_iface hp sp
      rw [e, hpe]
      simp only [hpe, show ((6 : Nat) : Int) = 6 from rfl] at hO
      generalize aroX d p 6 = X at *
      clear e hpe hs hc eT
      have bz := (Below.refl w.heap.size w).alloc (Nat.le_refl _) (.cells #[.iface pu py] 54)
      have hwz := hw.below bz
      go_enter Tryz.func21, Tryz.ntmps21
      go_wp2_with (first | (go_at_call 37; refine (hO _ hwz).mono ?_; rintro e w2 ⟨rfl, b2⟩))
      go_ret
      exact ⟨congrArg (fun b => Ending.returned (.string b)) (ba_one _ X), bthen bz b2⟩
    · have e : exV (d + 1) (mkT 4 0 ⟨#[]⟩ [p] : T (d + 1)) = .iface 55 (.agg #[exV d p]) := rfl
      have sp : sdC d p = true := by
        rw [sdC_mk, if_neg (by decide), if_neg (by decide), if_pos (by decide)] at hs
        simpa using hs
      have eT : txtC (d + 1) (mkT 4 0 ⟨#[]⟩ [p] : T (d + 1)) = 45 :: aroX d p 6 := rfl
      rw [eT] at hl ⊢
      have hl2 : (aroX d p 6).length + 1 ≤ 1000000 := by simpa using hl
      have hO := fun w1 hw1 => HO p 6 w1 hp sp (by omega) (by omega) hw1
      obtain ⟨pu, py, hpe⟩ := sd_iface hp sp
      rw [e, hpe]
      simp only [hpe, show ((6 : Nat) : Int) = 6 from rfl] at hO
      generalize aroX d p 6 = X at *
      clear e hpe hs hc eT
      have bz := (Below.refl w.heap.size w).alloc (Nat.le_refl _) (.cells #[.iface pu py] 55)
      have hwz := hw.below bz
      go_enter Tryz.func21, Tryz.ntmps21
      go_wp2_with (first | (go_at_call 37; refine (hO _ hwz).mono ?_; rintro e w2 ⟨rfl, b2⟩))
      go_ret
      exact ⟨congrArg (fun b => Ending.returned (.string b)) (ba_one _ X), bthen bz b2⟩
  · have e : exV (d + 1) (mkT 5 0 s [p, q] : T (d + 1)) = .iface 43 (.agg #[.string s, exV d p, exV d q]) := rfl
    have sd := hs
    rw [sdC_mk, if_neg (by decide), if_neg (by decide), if_neg (by decide), if_pos rfl] at sd
    simp only [List.all_cons, List.all_nil, Bool.and_true, Bool.and_eq_true] at sd
    obtain ⟨_, sp, sq⟩ := sd
    have hB := fun w1 hw1 => HB s p q w1 hp hq sp sq hl hw1
    obtain ⟨pu, py, hpe⟩ := sd_iface hp sp
    obtain ⟨qu, qy, hqe⟩ := sd_iface hq sq
    rw [e]
    rw [hpe, hqe] at hB ⊢
    generalize txtC (d + 1) (mkT 5 0 s [p, q] : T (d + 1)) = X at *
    clear e hs hc hpe hqe
    have bz := (Below.refl w.heap.size w).alloc (Nat.le_refl _) (.cells #[.string s, .iface pu py, .iface qu qy] 43)
    have hwz := hw.below bz
    go_enter Tryz.func21, Tryz.ntmps21
    go_wp2_with (first | (go_at_call 38; refine (hB _ hwz).mono ?_; rintro e w2 ⟨rfl, b2⟩))
    go_ret
    exact ⟨rfl, bthen bz b2⟩
  · exact absurd hs (by simp [none0, sdC_mk])
theorem op_any : ∀ d, OpC d
  | 0 => fun t => Empty.elim t
  | d + 1 => op_step d (bin_step d (op_any d)) (tx_step d (op_any d) (bin_step d (op_any d)))
theorem text_any : ∀ d, TxC d
  | 0 => fun t => Empty.elim t
  | d + 1 => tx_step d (op_any d) (bin_step d (op_any d))
end Go.Proofs.YtiddccohldjjcaaGreatDoor

/- What the document's strength, around and text do. -/
namespace Go.Proofs.YtiddccohldjjcaaGreatDoor
open Go.RowKit Go.Lib
set_option linter.unusedSimpArgs false
set_option linter.unusedVariables false
attribute [local go_sem ↓] Go.wp_at_zero Go.wp_at_succ
set_option maxRecDepth 100000 in
set_option maxHeartbeats 4000000 in
theorem strength_any {ok : Nat → Prop} {d : Nat} {t : T d} {v : Value} {w : World} (h : RdT ok w d t v) :
    Calls Tryz.prog 58 #[v] w fun e w' => e = .returned (.int .i64 ((pcs dcN d t).1 : Int)) ∧ Below w.heap.size w w' := by
  match d, t, h with
  | 0, t, _ => exact Empty.elim t
  | d + 1, t, h =>
  obtain ⟨k, n, s, ps, rfl⟩ := T.open t
  obtain ⟨sl, rfl, hp⟩ := rdT_mk.1 h
  obtain ⟨a, cap, rfl, hlc, hcm, hcell⟩ := hp.form
  have e : (pcs dcN (d + 1) (mkT k n s ps)).1 = if k = 5 then lv (bl s) else 6 := rfl
  rw [e]
  have hlv := fun w1 => rLevel_any s w1
  have hb0 := (Below.refl w.heap.size w).alloc (Nat.le_refl _) (.cells #[.int .i64 k, .int .i64 n, .string s, .slice a ps.length cap] 24)
  clear hcell hp h e
  by_cases k5 : k = 5
  · subst k5
    rw [if_pos rfl]
    go_enter Tryz.func58, Tryz.ntmps58
    go_wp2_with (first | (go_at_call 42; refine (hlv _).mono ?_; rintro e w1 ⟨rfl, rfl⟩))
    go_ret
    exact ⟨rfl, hb0⟩
  · rw [if_neg k5]
    have e5 : (k == 5) = false := beq_eq_false_iff_ne.2 k5
    go_enter Tryz.func58, Tryz.ntmps58
    go_wp2
    go_ret
    exact ⟨rfl, hb0⟩
def TxR (d : Nat) : Prop := ∀ (ok : Nat → Prop) (t : T d) (v : Value) (w : World), RdT ok w d t v → Cl d t → sdC d t = true → (txtC d t).length ≤ 1000000 → Pow w →
  Calls Tryz.prog 24 #[v] w fun e w' => e = .returned (.string ⟨(txtC d t).toArray⟩) ∧ Below w.heap.size w w'
def ArR (d : Nat) : Prop := ∀ (ok : Nat → Prop) (t : T d) (m : Nat) (v : Value) (w : World), RdT ok w d t v → Cl d t → sdC d t = true → (aroX d t m).length ≤ 1000000 → Pow w →
  Calls Tryz.prog 41 #[v, .int .i64 (m : Int)] w fun e w' => e = .returned (.string ⟨(aroX d t m).toArray⟩) ∧ Below w.heap.size w w'
theorem aro_if {d : Nat} {t : T d} {m : Nat} : aroX d t m = if (pcs dcN d t).1 < m then 40 :: (txtC d t ++ [41]) else txtC d t := by
  unfold aroX aroP txtC
  split
  · rw [txP_cons, txP_app]; rfl
  · rfl
set_option maxRecDepth 100000 in
set_option maxHeartbeats 4000000 in
theorem around_step (d : Nat) (H : TxR d) : ArR d := by
  intro ok t m v w h hc hs hl hw
  have hX := fun w1 (b : Below w.heap.size w w1) hl1 hw1 => H ok t v w1 (RdT.below b (Nat.le_refl _) h) hc hs hl1 hw1
  have hS := fun w1 (b : Below w.heap.size w w1) => strength_any (RdT.below b (Nat.le_refl _) h)
  rw [aro_if] at hl ⊢
  generalize txtC d t = X at *
  generalize (pcs dcN d t).1 = g at *
  match d, t, h with
  | 0, t, _ => exact Empty.elim t
  | d + 1, t, h =>
  obtain ⟨k, n, s, ps, rfl⟩ := T.open t
  obtain ⟨sl, rfl, hp⟩ := rdT_mk.1 h
  obtain ⟨a, cap, rfl, hlc, hcm, hcell⟩ := hp.form
  have hA := At4.new w (.int .i64 k) (.int .i64 n) (.string s) (.slice a ps.length cap) 24
  have hb0 := (Below.refl w.heap.size w).alloc (Nat.le_refl _) (.cells #[.int .i64 k, .int .i64 n, .string s, .slice a ps.length cap] 24)
  have s1 := hS _ hb0
  clear hcell hp h
  by_cases hlt : g < m
  · rw [if_pos hlt] at hl ⊢
    have hlt' : (g : Int) < (m : Int) := by omega
    have hl2 : X.length + 2 ≤ 1000000 := by simpa using hl
    go_enter Tryz.func41, Tryz.ntmps41
    go_wp2_with (first
      | (go_at_call 58; refine s1.mono ?_; rintro e w1 ⟨rfl, b1⟩; have bb := bthen hb0 b1; obtain ⟨y0, y1, y2, y3⟩ := hA.on b1; have s2 := hX w1 bb (by omega) (hw.below bb); clear s1)
      | (go_at_call 24; refine s2.mono ?_; rintro e w2 ⟨rfl, b2⟩; have bb := bthen bb b2; clear s2))
    go_ret
    exact ⟨congrArg (fun b => Ending.returned (.string b)) (ba_par X), bb⟩
  · rw [if_neg hlt] at hl ⊢
    have hlt' : ¬ (g : Int) < (m : Int) := by omega
    go_enter Tryz.func41, Tryz.ntmps41
    go_wp2_with (first
      | (go_at_call 58; refine s1.mono ?_; rintro e w1 ⟨rfl, b1⟩; have bb := bthen hb0 b1; obtain ⟨y0, y1, y2, y3⟩ := hA.on b1; have s2 := hX w1 bb hl (hw.below bb); clear s1)
      | (go_at_call 24; refine s2.mono ?_; rintro e w2 ⟨rfl, b2⟩; have bb := bthen bb b2; clear s2))
    go_ret
    exact ⟨rfl, bb⟩
/-- Two parts' cells. -/
def Prt (w : World) (b off : Nat) (c0 c1 c2 c3 e0 e1 e2 e3 : Value) : Prop := b < w.heap.size ∧ w.cell? ⟨b, off, none⟩ = some c0 ∧ w.cell? ⟨b, off + 1, none⟩ = some c1 ∧ w.cell? ⟨b, off + 2, none⟩ = some c2 ∧ w.cell? ⟨b, off + 3, none⟩ = some c3 ∧ w.cell? ⟨b, off + 4, none⟩ = some e0 ∧ w.cell? ⟨b, off + 4 + 1, none⟩ = some e1 ∧ w.cell? ⟨b, off + 4 + 2, none⟩ = some e2 ∧ w.cell? ⟨b, off + 4 + 3, none⟩ = some e3
theorem Prt.on {w w' : World} {b off : Nat} {c0 c1 c2 c3 e0 e1 e2 e3 : Value} (h : Prt w b off c0 c1 c2 c3 e0 e1 e2 e3) (hb : Below w.heap.size w w') : Prt w' b off c0 c1 c2 c3 e0 e1 e2 e3 := by
  obtain ⟨h0, h1, h2, h3, h4, h5, h6, h7, h8⟩ := h
  have k : ∀ i v, w.cell? ⟨b, i, none⟩ = some v → w'.cell? ⟨b, i, none⟩ = some v := fun i v hc => (hb.cell (p := ⟨b, i, none⟩) h0).trans hc
  exact ⟨Nat.lt_of_lt_of_le h0 hb.size, k _ _ h1, k _ _ h2, k _ _ h3, k _ _ h4, k _ _ h5, k _ _ h6, k _ _ h7, k _ _ h8⟩
theorem hold10 {w : World} {X b off cap : Nat} {k n : Value} {s : ByteArray} {c0 c1 c2 c3 e0 e1 e2 e3 : Value} (hA : At4 w X k n (.string s) (.slice (some ⟨b, off, none⟩) 2 cap)) (hP : Prt w b off c0 c1 c2 c3 e0 e1 e2 e3) :
    w.cell? ⟨X, 2, none⟩ = some (.string s) ∧ w.cell? ⟨X, 3, none⟩ = some (.slice (some ⟨b, off, none⟩) 2 cap) ∧ w.cell? ⟨b, off, none⟩ = some c0 ∧ w.cell? ⟨b, off + 1, none⟩ = some c1 ∧ w.cell? ⟨b, off + 2, none⟩ = some c2 ∧ w.cell? ⟨b, off + 3, none⟩ = some c3 ∧ w.cell? ⟨b, off + 4, none⟩ = some e0 ∧ w.cell? ⟨b, off + 4 + 1, none⟩ = some e1 ∧ w.cell? ⟨b, off + 4 + 2, none⟩ = some e2 ∧ w.cell? ⟨b, off + 4 + 3, none⟩ = some e3 := ⟨hA.2.2.1, hA.2.2.2, hP.2⟩
set_option maxRecDepth 100000 in
set_option maxHeartbeats 4000000 in
theorem text_step (d : Nat) (H : ArR d) : TxR (d + 1) := by
  intro ok t v w h hc hs hl hw
  rcases hc.cases with ⟨n, rfl⟩ | ⟨s, rfl⟩ | ⟨k, p, hk, rfl, hp⟩ | ⟨s, p, q, rfl, hp, hq⟩ | rfl
  · obtain ⟨sl, rfl, hp⟩ := rdT_mk.1 h
    obtain ⟨a, cap, rfl, hlc, hcm, hcell⟩ := hp.form
    have eT : txtC (d + 1) (mkT 1 n ⟨#[]⟩ [] : T (d + 1)) = dcN n := by
      show txP [some (2, dcN n)] = dcN n
      rw [txP_cons]; exact List.append_nil _
    rw [eT]
    rw [sdC_mk, if_pos rfl] at hs
    simp only [Bool.and_eq_true, decide_eq_true_eq] at hs
    have hF := fun w1 h => fmt_any hs.1 hs.2 w1 h
    have bz := (Below.refl w.heap.size w).alloc (Nat.le_refl _) (.cells #[.int .i64 1, .int .i64 n, .string ⟨#[]⟩, .slice a 0 cap] 24)
    have s1 := hF _ (hw.below bz)
    generalize dcN n = X at *
    clear hc eT hcell hp h hF hl
    simp only [List.length_nil]
    go_enter Tryz.func24, Tryz.ntmps24
    go_wp2_with (first | (go_at_call 35; refine s1.mono ?_; rintro e w2 ⟨rfl, b2⟩))
    go_ret
    exact ⟨rfl, bthen bz b2⟩
  · obtain ⟨sl, rfl, hp⟩ := rdT_mk.1 h
    obtain ⟨a, cap, rfl, hlc, hcm, hcell⟩ := hp.form
    have eT : (⟨(txtC (d + 1) (mkT 2 0 s [] : T (d + 1))).toArray⟩ : ByteArray) = s := by
      have : txtC (d + 1) (mkT 2 0 s [] : T (d + 1)) = s.data.toList := by
        show txP [some (1, s.data.toList)] = _
        rw [txP_cons]; exact List.append_nil _
      rw [this]
    rw [eT]
    have bz := (Below.refl w.heap.size w).alloc (Nat.le_refl _) (.cells #[.int .i64 2, .int .i64 0, .string s, .slice a 0 cap] 24)
    clear hc eT hcell hp h hl hs
    simp only [List.length_nil]
    go_enter Tryz.func24, Tryz.ntmps24
    go_wp2
    go_ret
    exact ⟨rfl, bz⟩
  · rcases hk with rfl | rfl
    · have sp : sdC d p = true := by
        rw [sdC_mk, if_neg (by decide), if_neg (by decide), if_pos (by decide)] at hs
        simpa using hs
      have eT : txtC (d + 1) (mkT 3 0 ⟨#[]⟩ [p] : T (d + 1)) = 33 :: aroX d p 6 := rfl
      rw [eT] at hl ⊢
      have hl2 : (aroX d p 6).length + 1 ≤ 1000000 := by simpa using hl
      obtain ⟨sl, rfl, hq⟩ := rdT_mk.1 h
      obtain ⟨a, cap, rfl, hlc, hcm, hcell⟩ := hq.form
      obtain ⟨b, off, c0, c1, c2, c3, rfl, hbl, hr, k0, k1, k2, k3⟩ := hcell 0 (by simp)
      have hO := fun w1 (b : Below w.heap.size w w1) hw1 => H ok p 6 _ w1 (RdT.below b (Nat.le_refl _) hr) hp sp (by omega) hw1
      simp only [show ((6 : Nat) : Int) = 6 from rfl] at hO
      have bz := (Below.refl w.heap.size w).alloc (Nat.le_refl _) (.cells #[.int .i64 3, .int .i64 0, .string ⟨#[]⟩, .slice (some ⟨b, off, none⟩) 1 cap] 24)
      have s1 := hO _ bz (hw.below bz)
      have C0 := (bz.cell (p := ⟨b, off + 0 * 4, none⟩) hbl).trans k0
      have C1 := (bz.cell (p := ⟨b, off + 0 * 4 + 1, none⟩) hbl).trans k1
      have C2 := (bz.cell (p := ⟨b, off + 0 * 4 + 2, none⟩) hbl).trans k2
      have C3 := (bz.cell (p := ⟨b, off + 0 * 4 + 3, none⟩) hbl).trans k3
      simp only [Nat.zero_mul, Nat.add_zero] at C0 C1 C2 C3
      generalize aroX d p 6 = X at *
      clear hs hc eT hcell hq h hr k0 k1 k2 k3 hO
      simp only [List.length_cons, List.length_nil, Nat.zero_add] at hlc ⊢
      go_enter Tryz.func24, Tryz.ntmps24
      go_wp2_with (first | (go_at_call 41; refine s1.mono ?_; rintro e w2 ⟨rfl, b2⟩))
      go_ret
      exact ⟨congrArg (fun b => Ending.returned (.string b)) (ba_one _ X), bthen bz b2⟩
    · have sp : sdC d p = true := by
        rw [sdC_mk, if_neg (by decide), if_neg (by decide), if_pos (by decide)] at hs
        simpa using hs
      have eT : txtC (d + 1) (mkT 4 0 ⟨#[]⟩ [p] : T (d + 1)) = 45 :: aroX d p 6 := rfl
      rw [eT] at hl ⊢
      have hl2 : (aroX d p 6).length + 1 ≤ 1000000 := by simpa using hl
      obtain ⟨sl, rfl, hq⟩ := rdT_mk.1 h
      obtain ⟨a, cap, rfl, hlc, hcm, hcell⟩ := hq.form
      obtain ⟨b, off, c0, c1, c2, c3, rfl, hbl, hr, k0, k1, k2, k3⟩ := hcell 0 (by simp)
      have hO := fun w1 (b : Below w.heap.size w w1) hw1 => H ok p 6 _ w1 (RdT.below b (Nat.le_refl _) hr) hp sp (by omega) hw1
      simp only [show ((6 : Nat) : Int) = 6 from rfl] at hO
      have bz := (Below.refl w.heap.size w).alloc (Nat.le_refl _) (.cells #[.int .i64 4, .int .i64 0, .string ⟨#[]⟩, .slice (some ⟨b, off, none⟩) 1 cap] 24)
      have s1 := hO _ bz (hw.below bz)
      have C0 := (bz.cell (p := ⟨b, off + 0 * 4, none⟩) hbl).trans k0
      have C1 := (bz.cell (p := ⟨b, off + 0 * 4 + 1, none⟩) hbl).trans k1
      have C2 := (bz.cell (p := ⟨b, off + 0 * 4 + 2, none⟩) hbl).trans k2
      have C3 := (bz.cell (p := ⟨b, off + 0 * 4 + 3, none⟩) hbl).trans k3
      simp only [Nat.zero_mul, Nat.add_zero] at C0 C1 C2 C3
      generalize aroX d p 6 = X at *
      clear hs hc eT hcell hq h hr k0 k1 k2 k3 hO
      simp only [List.length_cons, List.length_nil, Nat.zero_add] at hlc ⊢
      go_enter Tryz.func24, Tryz.ntmps24
      go_wp2_with (first | (go_at_call 41; refine s1.mono ?_; rintro e w2 ⟨rfl, b2⟩))
      go_ret
      exact ⟨congrArg (fun b => Ending.returned (.string b)) (ba_one _ X), bthen bz b2⟩
  · have sd := hs
    rw [sdC_mk, if_neg (by decide), if_neg (by decide), if_neg (by decide), if_pos rfl] at sd
    simp only [List.all_cons, List.all_nil, Bool.and_true, Bool.and_eq_true] at sd
    obtain ⟨_, sp, sq⟩ := sd
    have hlv := fun w1 => rLevel_any s w1
    obtain ⟨sl, rfl, hqq⟩ := rdT_mk.1 h
    obtain ⟨a, cap, rfl, hlc, hcm, hcell⟩ := hqq.form
    obtain ⟨b, off, c0, c1, c2, c3, rfl, hbl, hr, k0, k1, k2, k3⟩ := hcell 0 (by simp)
    obtain ⟨b', off', e0, e1, e2, e3, hae, _, hr', m0, m1, m2, m3⟩ := hcell 1 (by simp)
    obtain ⟨rfl, rfl⟩ : b = b' ∧ off = off' := by injection hae with h1; injection h1 with h2 h3; exact ⟨h2, h3⟩
    have hI := fun m w1 (b : Below w.heap.size w w1) hl1 hw1 => H ok p m _ w1 (RdT.below b (Nat.le_refl _) hr) hp sp hl1 hw1
    have hJ := fun m w1 (b : Below w.heap.size w w1) hl1 hw1 => H ok q m _ w1 (RdT.below b (Nat.le_refl _) hr') hq sq hl1 hw1
    have hl5 : lv (bl s) ≤ 5 := lv_le _
    obtain ⟨k, hk⟩ : ∃ k, lv (bl s) = k := ⟨_, rfl⟩
    rw [hk] at hl5
    simp only [hk] at hlv
    have hT : txtC (d + 1) (mkT 5 0 s [p, q]) = aroX d p (if k = 3 then 4 else k) ++ 32 :: (bl s ++ 32 :: aroX d q (k + 1)) := by
      rw [← hk]; exact txt_bin s p q
    obtain ⟨TX, hTX⟩ : ∃ TX, txtC (d + 1) (mkT 5 0 s [p, q]) = TX := ⟨_, rfl⟩
    rw [hTX] at hT hl ⊢
    simp only [List.length_cons, List.length_nil, Nat.zero_add, show 1 + 1 = 2 from rfl] at hlc ⊢
    simp only [Nat.zero_mul, Nat.add_zero, Nat.one_mul] at k0 k1 k2 k3 m0 m1 m2 m3
    have b1 := (Below.refl w.heap.size w).alloc (Nat.le_refl _) (.cells #[.int .i64 5, .int .i64 0, .string s, .slice (some ⟨b, off, none⟩) 2 cap] 24)
    have hA := At4.new w (.int .i64 5) (.int .i64 0) (.string s) (.slice (some ⟨b, off, none⟩) 2 cap) 24
    have hP : Prt w b off c0 c1 c2 c3 e0 e1 e2 e3 := ⟨hbl, k0, k1, k2, k3, m0, m1, m2, m3⟩
    have hP1 := hP.on b1
    have hw1 := hw.below b1
    clear hTX hr hr' k0 k1 k2 k3 m0 m1 m2 m3 hae hcell hqq h hc hs hP
    by_cases h3 : k = 3
    · subst h3
      have hIm := fun w1 b h1 h => hI 4 w1 b h1 h
      have hJm := fun w1 b h1 h => hJ 4 w1 b h1 h
      rw [if_pos rfl] at hT
      simp only [show ((4 : Nat) : Int) = 4 from rfl] at hIm hJm
      generalize aroX d p 4 = A at hT hIm
      generalize aroX d q 4 = B at hT hJm
      clear hI hJ
      have hlA : A.length ≤ 1000000 := by have := congrArg List.length hT; simp only [List.length_append, List.length_cons] at this; omega
      have hlB : B.length ≤ 1000000 := by have := congrArg List.length hT; simp only [List.length_append, List.length_cons] at this; omega
      replace hIm := fun w1 b h => hIm w1 b hlA h
      replace hJm := fun w1 b h => hJm w1 b hlB h
      clear hlA hlB
      have hAB : A.length + B.length + (bl s).length + 2 ≤ 1000000 := by
        have := congrArg List.length hT
        simp only [List.length_append, List.length_cons] at this
        omega
      obtain ⟨bA, hbA⟩ : ∃ bA : ByteArray, ⟨A.toArray⟩ = bA := ⟨_, rfl⟩
      obtain ⟨bB, hbB⟩ : ∃ bB : ByteArray, ⟨B.toArray⟩ = bB := ⟨_, rfl⟩
      have hAe : bl bA = A := by rw [← hbA]
      have hBe : bl bB = B := by rw [← hbB]
      have a1 := add_ok bA ⟨#[32]⟩ ⟨(A ++ [32]).toArray⟩ (by rw [hAe]; show A.length + 1 ≤ _; omega) (by rw [hAe])
      have a2 := add_ok ⟨(A ++ [32]).toArray⟩ s ⟨(A ++ [32] ++ bl s).toArray⟩ (by show (A ++ [32]).length + _ ≤ _; simp only [List.length_append, List.length_cons, List.length_nil]; omega) rfl
      have a3 := add_ok ⟨(A ++ [32] ++ bl s).toArray⟩ ⟨#[32]⟩ ⟨(A ++ [32] ++ bl s ++ [32]).toArray⟩ (by show (A ++ [32] ++ bl s).length + 1 ≤ _; simp only [List.length_append, List.length_cons, List.length_nil]; omega) rfl
      have a4 := add_ok ⟨(A ++ [32] ++ bl s ++ [32]).toArray⟩ bB ⟨TX.toArray⟩ (by rw [hBe]; show (A ++ [32] ++ bl s ++ [32]).length + _ ≤ _; simp only [List.length_append, List.length_cons, List.length_nil]; omega) (by rw [hBe]; show TX = A ++ [32] ++ bl s ++ [32] ++ B; rw [hT]; simp)
      rw [hbA] at hIm
      rw [hbB] at hJm
      clear hT hAB hAe hBe hbA hbB hl
      generalize (⟨(A ++ [32]).toArray⟩ : ByteArray) = x1 at *
      generalize (⟨(A ++ [32] ++ bl s).toArray⟩ : ByteArray) = x2 at *
      generalize (⟨(A ++ [32] ++ bl s ++ [32]).toArray⟩ : ByteArray) = x3 at *
      generalize (⟨TX.toArray⟩ : ByteArray) = x4 at *
      rw [show (4 : Int) = IntKind.i64.wrap 4 from by decide] at hJm
      go_enter Tryz.func24, Tryz.ntmps24
      go_wp2_with (first | (go_at_call 42; refine (hlv _).mono ?_; rintro e w2 ⟨rfl, rfl⟩))
      clear hlv
      generalize w.alloc (.cells #[.int .i64 5, .int .i64 0, .string s, .slice (some ⟨b, off, none⟩) 2 cap] 24) = w1 at *
      have bd : Below w1.heap.size w1 w1.drew := (Below.refl _ _).drew
      have b1 := bthen b1 bd
      have hA := hA.on bd
      have hP1 := hP1.on bd
      have s1 := hIm w1.drew b1 (hw1.below bd)
      go_region_held_law (fun w' => w'.cell? ⟨w.heap.size, 2, none⟩ = some (.string s) ∧ w'.cell? ⟨w.heap.size, 3, none⟩ = some (.slice (some ⟨b, off, none⟩) 2 cap) ∧ w'.cell? ⟨b, off, none⟩ = some c0 ∧ w'.cell? ⟨b, off + 1, none⟩ = some c1 ∧ w'.cell? ⟨b, off + 2, none⟩ = some c2 ∧ w'.cell? ⟨b, off + 3, none⟩ = some c3 ∧ w'.cell? ⟨b, off + 4, none⟩ = some e0 ∧ w'.cell? ⟨b, off + 4 + 1, none⟩ = some e1 ∧ w'.cell? ⟨b, off + 4 + 2, none⟩ = some e2 ∧ w'.cell? ⟨b, off + 4 + 3, none⟩ = some e3)
        (first | (with_reducible exact hold10 hA hP1) | (with_reducible exact hold10 hA3 hP3) | (with_reducible exact hold10 hA4 hP4) | go_keep)
        ((first
          | (go_at_call 41; (with_reducible refine s1.mono ?_); rintro e w3 ⟨rfl, b3⟩; have hA3 := hA.on b3; have hP3 := hP1.on b3; have b4 := bthen b1 b3; have s2 := hJm w3 b4 ((hw1.below bd).below b3); clear s1)
          | (go_at_call 41; (with_reducible refine s2.mono ?_); rintro e w4 ⟨rfl, b5⟩; have hA4 := hA3.on b5; have hP4 := hP3.on b5; have b6 := bthen b4 b5; clear s2)))
      go_wp2
      go_ret
      exact ⟨rfl, b6⟩
    · have hIm := fun w1 b h1 h => hI k w1 b h1 h
      have hJm := fun w1 b h1 h => hJ (k + 1) w1 b h1 h
      rw [if_neg h3] at hT
      simp only [Int.natCast_add, show ((1 : Nat) : Int) = 1 from rfl] at hJm
      generalize aroX d p k = A at hT hIm
      generalize aroX d q (k + 1) = B at hT hJm
      have h3' : (k : Int) ≠ 3 := by omega
      have h3b : ((k : Int) == 3) = false := beq_eq_false_iff_ne.2 h3'
      clear hI hJ
      have hlA : A.length ≤ 1000000 := by have := congrArg List.length hT; simp only [List.length_append, List.length_cons] at this; omega
      have hlB : B.length ≤ 1000000 := by have := congrArg List.length hT; simp only [List.length_append, List.length_cons] at this; omega
      replace hIm := fun w1 b h => hIm w1 b hlA h
      replace hJm := fun w1 b h => hJm w1 b hlB h
      clear hlA hlB
      have hAB : A.length + B.length + (bl s).length + 2 ≤ 1000000 := by
        have := congrArg List.length hT
        simp only [List.length_append, List.length_cons] at this
        omega
      obtain ⟨bA, hbA⟩ : ∃ bA : ByteArray, ⟨A.toArray⟩ = bA := ⟨_, rfl⟩
      obtain ⟨bB, hbB⟩ : ∃ bB : ByteArray, ⟨B.toArray⟩ = bB := ⟨_, rfl⟩
      have hAe : bl bA = A := by rw [← hbA]
      have hBe : bl bB = B := by rw [← hbB]
      have a1 := add_ok bA ⟨#[32]⟩ ⟨(A ++ [32]).toArray⟩ (by rw [hAe]; show A.length + 1 ≤ _; omega) (by rw [hAe])
      have a2 := add_ok ⟨(A ++ [32]).toArray⟩ s ⟨(A ++ [32] ++ bl s).toArray⟩ (by show (A ++ [32]).length + _ ≤ _; simp only [List.length_append, List.length_cons, List.length_nil]; omega) rfl
      have a3 := add_ok ⟨(A ++ [32] ++ bl s).toArray⟩ ⟨#[32]⟩ ⟨(A ++ [32] ++ bl s ++ [32]).toArray⟩ (by show (A ++ [32] ++ bl s).length + 1 ≤ _; simp only [List.length_append, List.length_cons, List.length_nil]; omega) rfl
      have a4 := add_ok ⟨(A ++ [32] ++ bl s ++ [32]).toArray⟩ bB ⟨TX.toArray⟩ (by rw [hBe]; show (A ++ [32] ++ bl s ++ [32]).length + _ ≤ _; simp only [List.length_append, List.length_cons, List.length_nil]; omega) (by rw [hBe]; show TX = A ++ [32] ++ bl s ++ [32] ++ B; rw [hT]; simp)
      rw [hbA] at hIm
      rw [hbB] at hJm
      clear hT hAB hAe hBe hbA hbB hl
      generalize (⟨(A ++ [32]).toArray⟩ : ByteArray) = x1 at *
      generalize (⟨(A ++ [32] ++ bl s).toArray⟩ : ByteArray) = x2 at *
      generalize (⟨(A ++ [32] ++ bl s ++ [32]).toArray⟩ : ByteArray) = x3 at *
      generalize (⟨TX.toArray⟩ : ByteArray) = x4 at *
      rw [show ((k : Int) + 1) = IntKind.i64.wrap ((k : Int) + 1) from (wrap_small _ (by omega) (by omega)).symm] at hJm
      go_enter Tryz.func24, Tryz.ntmps24
      go_wp2_with (first | (go_at_call 42; refine (hlv _).mono ?_; rintro e w2 ⟨rfl, rfl⟩))
      clear hlv
      generalize w.alloc (.cells #[.int .i64 5, .int .i64 0, .string s, .slice (some ⟨b, off, none⟩) 2 cap] 24) = w1 at *
      have bd : Below w1.heap.size w1 w1.drew := (Below.refl _ _).drew
      have b1 := bthen b1 bd
      have hA := hA.on bd
      have hP1 := hP1.on bd
      have s1 := hIm w1.drew b1 (hw1.below bd)
      go_region_held_law (fun w' => w'.cell? ⟨w.heap.size, 2, none⟩ = some (.string s) ∧ w'.cell? ⟨w.heap.size, 3, none⟩ = some (.slice (some ⟨b, off, none⟩) 2 cap) ∧ w'.cell? ⟨b, off, none⟩ = some c0 ∧ w'.cell? ⟨b, off + 1, none⟩ = some c1 ∧ w'.cell? ⟨b, off + 2, none⟩ = some c2 ∧ w'.cell? ⟨b, off + 3, none⟩ = some c3 ∧ w'.cell? ⟨b, off + 4, none⟩ = some e0 ∧ w'.cell? ⟨b, off + 4 + 1, none⟩ = some e1 ∧ w'.cell? ⟨b, off + 4 + 2, none⟩ = some e2 ∧ w'.cell? ⟨b, off + 4 + 3, none⟩ = some e3)
        (first | (with_reducible exact hold10 hA hP1) | (with_reducible exact hold10 hA3 hP3) | (with_reducible exact hold10 hA4 hP4) | go_keep)
        ((first
          | (go_at_call 41; (with_reducible refine s1.mono ?_); rintro e w3 ⟨rfl, b3⟩; have hA3 := hA.on b3; have hP3 := hP1.on b3; have b4 := bthen b1 b3; have s2 := hJm w3 b4 ((hw1.below bd).below b3); clear s1)
          | (go_at_call 41; (with_reducible refine s2.mono ?_); rintro e w4 ⟨rfl, b5⟩; have hA4 := hA3.on b5; have hP4 := hP3.on b5; have b6 := bthen b4 b5; clear s2)))
      go_wp2
      go_ret
      exact ⟨rfl, b6⟩
  · exact absurd hs (by simp [none0, sdC_mk])
theorem textR_any : ∀ d, TxR d
  | 0 => fun _ t => Empty.elim t
  | d + 1 => text_step d (around_step d (textR_any d))
end Go.Proofs.YtiddccohldjjcaaGreatDoor

/- Names in their order. Math, and rows of texts. -/
namespace Go.Proofs.YtiddccohldjjcaaGreatDoor
open Go.RowKit Go.Lib
set_option linter.unusedSimpArgs false
set_option linter.unusedVariables false

def lss (a b : ByteArray) : Bool := Op.bytesLess a.toList b.toList
def lead (ls : List ByteArray) (s : ByteArray) : Nat := (ls.takeWhile (fun x => lss x s)).length
/-- A name into rising ones, once. -/
def adS (ls : List ByteArray) (s : ByteArray) : List ByteArray := if ls[lead ls s]? = some s then ls else ls.take (lead ls s) ++ [s] ++ ls.drop (lead ls s)
def cS (ls : List ByteArray) : List Value := ls.map .string
/-- The slice v, made by calls of ours, holds the texts ls. -/
def RdS (w : World) (v : Value) (ls : List ByteArray) : Prop := w.ownsRow 0 9 1 v ls.length (cS ls)
theorem rdS_nil (w : World) : RdS w (.slice none 0 0) [] := World.ownsRow_nil w 0 9 1
theorem RdS.below {w w' : World} {v : Value} {ls : List ByteArray} {B : Nat} (h : RdS w v ls) (hb : Below B w w') (hB : w.heap.size ≤ B) : RdS w' v ls := by
  refine ⟨h.1, ?_⟩
  rcases h.2 with hn | ⟨g, cap, cur, rfl, hbg, hg, rest⟩
  · exact .inl hn
  · exact .inr ⟨g, cap, cur, rfl, hbg, by rw [hb.block g (by have := (Array.getElem?_eq_some_iff.1 hg).1; omega)]; exact hg, rest⟩
theorem RdS.form {w : World} {v : Value} {ls : List ByteArray} (h : RdS w v ls) : (v = .slice none 0 0 ∧ ls = []) ∨ ∃ g cap, v = .slice (some ⟨g, 0, none⟩) ls.length cap ∧ ls.length ≤ cap ∧ cap ≤ maxLen ∧ ∀ (i : Nat) (hi : i < ls.length), w.cell? ⟨g, i, none⟩ = some (.string ls[i]) := by
  rcases h.2 with ⟨h1, h2⟩ | ⟨g, cap, cur, rfl, hb, hg, hnc, hcm, _⟩
  · exact .inl ⟨h1, List.eq_nil_of_length_eq_zero h2⟩
  · refine .inr ⟨g, cap, rfl, hnc, hcm, fun i hi => ?_⟩
    have h1 := World.ownsRow.cells h (g := g) rfl i (.string ls[i]) (by simp [cS, hi])
    have hp : (⟨g, 0, none⟩ : Addr).add i = ⟨g, i, none⟩ := by unfold Addr.add; split <;> simp_all
    rw [hp] at h1
    exact h1
theorem lead_le (ls : List ByteArray) (s : ByteArray) : lead ls s ≤ ls.length := by
  unfold lead
  exact (List.takeWhile_prefix _).length_le
theorem lead_of : ∀ (ls : List ByteArray) (s : ByteArray) (k : Nat), k ≤ ls.length → (∀ (i : Nat) (hi : i < ls.length), i < k → lss ls[i] s = true) → (∀ (hk : k < ls.length), lss ls[k] s = false) → lead ls s = k
  | [], s, k, hk, _, _ => by simp at hk; subst hk; rfl
  | x :: r, s, 0, hk, _, h2 => by
    have := h2 (by simp)
    simp only [List.getElem_cons_zero] at this
    simp [lead, List.takeWhile_cons, this]
  | x :: r, s, k + 1, hk, h1, h2 => by
    have hx := h1 0 (by simp) (by omega)
    simp only [List.getElem_cons_zero] at hx
    have ih := lead_of r s k (by simpa using hk) (fun i hi hik => by have := h1 (i + 1) (by simpa using hi) (by omega); simpa using this) (fun hk2 => by have := h2 (by simpa using hk2); simpa using this)
    unfold lead at ih ⊢
    rw [List.takeWhile_cons, if_pos hx, List.length_cons, ih]
theorem src_texts {P : Program} {t : TypeId} (ht : P.underlying t = some (.slice 9)) {w : World} {a : Addr} {n c : Nat} {ls : List ByteArray} (hl : ls.length = n) (h : ∀ (i : Nat) (hi : i < ls.length), w.cell? (a.add i) = some (.string ls[i])) : Src P 1 t (.slice (some a) n c) n (cS ls) w := by
  refine Src.ofSlice w ht a n c (cS ls) (by simp [cS, hl]) (fun j u hu => ?_) (fun u hu => ?_)
  · have hj : j < ls.length := by
      rcases Nat.lt_or_ge j ls.length with h | h
      · exact h
      · rw [List.getElem?_eq_none (by simp [cS]; omega)] at hu; cases hu
    have : u = .string ls[j] := by simpa [cS, hj] using hu.symm
    rw [this]; exact h j hj
  · obtain ⟨x, _, rfl⟩ := List.mem_map.1 hu
    rfl
theorem Tryz.infoStr : (Tryz.prog.info? 9).map (fun i => (i.zero, i.size, i.bytes)) = some (some (.string ⟨#[]⟩), 1, 16) := by kernel_rfl
theorem cS_append (a b : List ByteArray) : cS (a ++ b) = cS a ++ cS b := by simp [cS]
theorem add_plain1 (b off i : Nat) : (⟨b, off, none⟩ : Addr).add i = ⟨b, off + i, none⟩ := by unfold Addr.add; split <;> simp_all

theorem ownsRow_zero {w : World} {base e size : Nat} {v : Value} {n : Nat} {xs : List Value} (h : w.ownsRow base e size v n xs) : w.ownsRow 0 e size v n xs :=
  ⟨h.1, h.2.elim Or.inl (fun ⟨g, cap, cur, hv, hg, r⟩ => Or.inr ⟨g, cap, cur, hv, Nat.zero_le _, r⟩)⟩
end Go.Proofs.YtiddccohldjjcaaGreatDoor

/- slices.IndexFunc, slices.ContainsFunc at the names of an expression and Reserved. -/
namespace Go.Proofs.YtiddccohldjjcaaGreatDoor
open Go.RowKit Go.Lib
set_option linter.unusedSimpArgs false
set_option linter.unusedVariables false
attribute [local go_sem ↓] Go.wp_at_zero Go.wp_at_succ
theorem RdS.at' {w : World} {v : Value} {ls : List ByteArray} (h : RdS w v ls) : ∃ a cap, v = .slice a ls.length cap ∧ ls.length ≤ maxLen ∧ ∀ (i : Nat) (hi : i < ls.length), ∃ g, a = some ⟨g, 0, none⟩ ∧ w.cell? ⟨g, i, none⟩ = some (.string ls[i]) := by
  rcases h.form with ⟨rfl, rfl⟩ | ⟨g, cap, rfl, h1, h2, h3⟩
  · exact ⟨none, 0, rfl, by simp [maxLen], fun i hi => by simp at hi⟩
  · exact ⟨_, _, rfl, by omega, fun i hi => ⟨g, rfl, h3 i hi⟩⟩
set_option maxRecDepth 100000 in
set_option maxHeartbeats 4000000 in
theorem idx_any {w : World} {v : Value} {ls : List ByteArray} (h : RdS w v ls) :
    Calls Tryz.prog 31 #[v, .func (.func 12) #[] #[]] w fun e w' => ∃ i : Int, e = .returned (.int .i64 i) ∧ decide (0 ≤ i) = ls.any (fun s => rsvB (bl s)) ∧ w' = w := by
  obtain ⟨a, cap, rfl, hm, hc⟩ := h.at'
  clear h
  unfold maxLen at hm
  obtain ⟨n, hn⟩ : ∃ n, ls.length = n := ⟨_, rfl⟩
  rw [hn] at hm ⊢
  go_enter Tryz.func31, Tryz.ntmps31
  go_wp2
  go_loopg [5, 8] n (fun gg _ s8 wr => ∃ kk : Nat, kk ≤ n ∧ n - kk ≤ gg ∧ s8 = .int .i64 (kk : Int) ∧ Hid (w = wr) ∧ Hid (∀ (j : Nat) (hj : j < ls.length), j < kk → rsvB (bl ls[j]) = false))
  case atStart => exact ⟨0, Nat.zero_le _, by omega, rfl, rfl, fun j _ hj => absurd hj (Nat.not_lt_zero _)⟩
  case round =>
    obtain ⟨kk, hkk, hg, rfl, hw, A⟩ := hrel
    obtain rfl : w = wr := hw
    by_cases hlt : kk < n
    · have hltz : (kk : Int) < (n : Int) := by omega
      obtain ⟨g, rfl, hcl⟩ := hc kk (by omega)
      have hcall := pReserved_any ls[kk] w
      obtain ⟨y, hy⟩ : ∃ y, ls[kk] = y := ⟨_, rfl⟩
      rw [hy] at hcl hcall
      cases hq : rsvB (bl y) with
      | true =>
        rw [hq] at hcall
        go_wp2_with (go_at_call 12; refine hcall.mono ?_; rintro e w' ⟨rfl, rfl⟩)
        go_ret
        refine ⟨_, rfl, ?_, rfl⟩
        rw [List.any_eq_true.2 ⟨y, hy ▸ List.getElem_mem _, hq⟩]
        simp
      | false =>
        rw [hq] at hcall
        go_wp2_with (go_at_call 12; refine hcall.mono ?_; rintro e w' ⟨rfl, rfl⟩)
        go_roundg (n - (kk + 1))
        case measure => omega
        case rel =>
          refine ⟨kk + 1, by omega, by omega, by go_num, rfl, (show Hid _ from fun j hj hj' => ?_)⟩
          by_cases e : j = kk
          · subst e; rw [hy]; exact hq
          · exact A j hj (by omega)
    · have hltz : ¬ (kk : Int) < (n : Int) := by omega
      go_wp2
      go_ret
      refine ⟨_, rfl, ?_, rfl⟩
      have : ls.any (fun s => rsvB (bl s)) = false := by
        rw [List.any_eq_false]
        intro x hx
        obtain ⟨j, hj, rfl⟩ := List.mem_iff_getElem.1 hx
        rw [A j hj (by omega)]; simp
      rw [this]; decide
set_option maxRecDepth 100000 in
set_option maxHeartbeats 4000000 in
theorem contains_any {w : World} {v : Value} {ls : List ByteArray} (h : RdS w v ls) :
    Calls Tryz.prog 19 #[v, .func (.func 12) #[] #[]] w fun e w' => e = .returned (.bool (ls.any (fun s => rsvB (bl s)))) ∧ w' = w := by
  have h1 := idx_any h
  obtain ⟨a, cap, rfl, hm, hc⟩ := h.at'
  clear h hc hm
  generalize ls.any (fun s => rsvB (bl s)) = z at h1 ⊢
  go_enter Tryz.func19, Tryz.ntmps19
  go_wp2_with (go_at_call 31; refine h1.mono ?_; rintro e w' ⟨i, rfl, hi, rfl⟩; have hi' : Hid (decide (0 ≤ i) = z) := hi; clear hi)
  go_ret
  have hi2 : decide (0 ≤ i) = z := hi'
  simp [← hi2]
end Go.Proofs.YtiddccohldjjcaaGreatDoor

/- The names of an expression. Math alone. -/
namespace Go.Proofs.YtiddccohldjjcaaGreatDoor
open Go.RowKit Go.Lib
set_option linter.unusedSimpArgs false
set_option linter.unusedVariables false

/-- The names of an expression, behind those that are there. -/
def rfC : (d : Nat) → T d → List ByteArray → List ByteArray := fold (fun k _ s fs l => fs.foldl (fun a f => f a) (if k = 2 then adS l s else l))
theorem rfC_mk {d : Nat} (k n : Int) (s : ByteArray) (ps : List (T d)) (l : List ByteArray) : rfC (d + 1) (mkT k n s ps) l = ps.foldl (fun a p => rfC d p a) (if k = 2 then adS l s else l) := by
  show (ps.map (rfC d)).foldl (fun a f => f a) (if k = 2 then adS l s else l) = _
  rw [List.foldl_map]
theorem adS_len (l : List ByteArray) (s : ByteArray) : (adS l s).length ≤ l.length + 1 := by
  have := lead_le l s
  unfold adS
  split
  · omega
  · simp; omega
theorem foldl_len {d : Nat} (H : ∀ (p : T d) (l : List ByteArray), (rfC d p l).length ≤ l.length + cnt d p) : ∀ (ps : List (T d)) (l : List ByteArray), (ps.foldl (fun a p => rfC d p a) l).length ≤ l.length + (ps.map (cnt d)).sum
  | [], l => by simp
  | p :: r, l => by
    have h1 := H p l
    have h2 := foldl_len H r (rfC d p l)
    simp only [List.foldl_cons, List.map_cons, List.sum_cons]
    omega
theorem rfC_len : ∀ (d : Nat) (t : T d) (l : List ByteArray), (rfC d t l).length ≤ l.length + cnt d t
  | 0, t, _ => Empty.elim t
  | d + 1, t, l => by
    obtain ⟨k, n, s, ps, rfl⟩ := T.open t
    rw [rfC_mk, cnt_mk]
    have h1 := foldl_len (rfC_len d) ps (if k = 2 then adS l s else l)
    have h2 := adS_len l s
    split at h1 <;> rename_i hk
    · rw [if_pos hk]; omega
    · rw [if_neg hk]; omega
def rfT (d : Nat) (t : T d) : List ByteArray := if fmC d t = true then rfC d t [] else []
end Go.Proofs.YtiddccohldjjcaaGreatDoor
