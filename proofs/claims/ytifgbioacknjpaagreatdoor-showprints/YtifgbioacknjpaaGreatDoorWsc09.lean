import Derived.Test.YtifgbioacknjpaaGreatDoorWsc03
import Derived.Test.YtifgbioacknjpaaGreatDoorWsc08
import Derived.Test.YtifgbioacknjpaaGreatDoorWsc05
import Derived.Test.YtifgbioacknjpaaGreatDoorWsc01
import Derived.BigQuiet
import Derived.Deep.QuietTactic
import Derived.BigRegion
import Derived.Shelf.Unicode.DecodeAny
import Derived.Lib.LaidU8
import Derived.PinnedBridge
import Derived.Test.YtifgbioacknjpaaGreatDoorRows
import Derived.Lay
import Derived.LaidMore
import Derived.MakeChecks
import Derived.Deep.RegionHeldLaw
import Derived.Deep.DeepCutAuto
import Derived.Test.YtifgbioacknjpaaGreatDoorWsc02

/- What Clean makes of a tree: memory. -/
namespace Go.Proofs.YtifgbioacknjpaaGreatDoor
open Go.RowKit
set_option linter.unusedSimpArgs false
set_option linter.unusedVariables false

/-- The slice v is the call's own, from block base on, and holds the trees l; their own memory lies apart. -/
def OwnN (w : World) (base : Nat) (v : Value) {d : Nat} (l : List (T d)) : Prop :=
  ∃ qs : List Q4, w.ownsRow base 104 4 v l.length (celsQ qs) ∧ qs.length = l.length ∧ ∀ (i : Nat) (h : i < l.length) (h' : i < qs.length), RdT (fun b => base ≤ b ∧ v.ownBlock ≠ some b) w d l[i] (.agg #[(qs[i]).1, (qs[i]).2.1, (qs[i]).2.2.1, (qs[i]).2.2.2])
theorem ownN_nil (w : World) (base : Nat) {d : Nat} : OwnN w base (.slice none 0 0) ([] : List (T d)) := ⟨[], World.ownsRow_nil w base 104 4, rfl, fun i h => absurd h (by simp)⟩
/-- It stays where the blocks from base on that there are stay. -/
theorem OwnN.keep {w w' : World} {base : Nat} {v : Value} {d : Nat} {l : List (T d)} (h : OwnN w base v l) (hk : ∀ b, base ≤ b → b < w.heap.size → w'.heap[b]? = w.heap[b]?) : OwnN w' base v l := by
  obtain ⟨qs, ho, hl, hr⟩ := h
  refine ⟨qs, ownsRow_keep ho (fun g hg => ?_), hl, fun i h h' => RdT.keep (fun b hb hlt => ⟨hb, hk b hb.1 hlt⟩) (hr i h h')⟩
  obtain ⟨a, b⟩ := ownsRow_lt ho g hg
  exact hk g a b
theorem OwnN.below {w w' : World} {base : Nat} {v : Value} {d : Nat} {l : List (T d)} (h : OwnN w base v l) (hb : Below w.heap.size w w') : OwnN w' base v l := h.keep (fun b _ hlt => hb.block b hlt)
theorem OwnN.set {w : World} {base : Nat} {v : Value} {d : Nat} {l : List (T d)} (h : OwnN w base v l) {X i : Nat} (hX : X < base) (u : Value) : OwnN (w.setCell ⟨X, i, none⟩ u) base v l :=
  h.keep (fun b hb _ => Below.heap_setCell _ _ _ _ (fun e => by have : b = X := e; omega))
theorem OwnN.snoc {w w' : World} {base g cap lo n : Nat} {v : Value} {d : Nat} {l : List (T d)} {p : T d} {c0 c1 c2 c3 : Value} {qs : List Q4}
    (hn : l.length = n) (ho : w.ownsRow base 104 4 v n (celsQ qs)) (hl : qs.length = l.length) (hr : ∀ (i : Nat) (h : i < l.length) (h' : i < qs.length), RdT (fun b => base ≤ b ∧ v.ownBlock ≠ some b) w d l[i] (.agg #[(qs[i]).1, (qs[i]).2.1, (qs[i]).2.2.1, (qs[i]).2.2.2]))
    (ho' : w'.ownsRow base 104 4 (.slice (some ⟨g, 0, none⟩) (n + 1) cap) (n + 1) (celsQ qs ++ [c0, c1, c2, c3])) (hg : w.grownBy w' v.ownBlock) (hat : v.ownBlock = some g ∨ g = w.heap.size)
    (hp : RdT (fun b => lo ≤ b) w d p (.agg #[c0, c1, c2, c3])) (hlo : base ≤ lo) (hv : ∀ x, v.ownBlock = some x → x < lo) : OwnN w' base (.slice (some ⟨g, 0, none⟩) (n + 1) cap) (l ++ [p]) := by
  subst hn
  have key : ∀ b, base ≤ b ∧ v.ownBlock ≠ some b → b < w.heap.size → (base ≤ b ∧ (Value.slice (some ⟨g, 0, none⟩) (l.length + 1) cap).ownBlock ≠ some b) ∧ w'.heap[b]? = w.heap[b]? := fun b hb hlt => by
    refine ⟨⟨hb.1, ?_⟩, hg.block b hlt (fun e => hb.2 e.symm)⟩
    simp only [Value.ownBlock, ne_eq, Option.some.injEq]
    rintro rfl
    rcases hat with h | h
    · exact hb.2 h
    · omega
  refine ⟨qs ++ [(c0, c1, c2, c3)], ?_, by simp [hl], fun i h h' => ?_⟩
  · rw [celsQ_snoc, List.length_append]
    exact ho'
  · rcases Nat.lt_or_ge i l.length with hi | hi
    · rw [List.getElem_append_left hi, List.getElem_append_left (by omega)]
      exact RdT.keep key (hr i hi (by omega))
    · have : i = l.length := by simp at h; omega
      subst this
      have e1 : (l ++ [p])[l.length] = p := by simp
      have e2 : (qs ++ [(c0, c1, c2, c3)])[l.length]'h' = (c0, c1, c2, c3) := by simp [← hl]
      rw [e1, e2]
      exact RdT.keep (fun b hb hlt => key b ⟨by omega, fun e => by have := hv b e; omega⟩ hlt) hp
theorem OwnN.form {w : World} {base : Nat} {v : Value} {d : Nat} {l : List (T d)} (h : OwnN w base v l) : ∃ a cap, v = .slice a l.length cap := by
  obtain ⟨qs, ho, _⟩ := h
  rcases ho.2 with ⟨h1, h2⟩ | ⟨g, cap, cur, h1, _⟩
  · exact ⟨none, 0, by rw [h1, h2]⟩
  · exact ⟨_, _, h1⟩
/-- It reads as the trees. -/
theorem OwnN.rd {w : World} {base : Nat} {v : Value} {d : Nat} {l : List (T d)} (h : OwnN w base v l) : RdP (fun b => base ≤ b) w (RdT (fun b => base ≤ b) w d) l v := by
  obtain ⟨qs, ho, hl, hr⟩ := h
  have hc := fun g => World.ownsRow.cells ho (g := g)
  rcases ho.2 with ⟨rfl, hn⟩ | ⟨g, cap, cur, rfl, hb, hg, hnc, hcm, hcs, htake⟩
  · have hx : l = [] := List.eq_nil_of_length_eq_zero hn
    subst hx
    exact ⟨none, 0, rfl, by simp, by simp [maxLen], by simp, fun x hx => by cases hx⟩
  · refine ⟨some ⟨g, 0, none⟩, cap, rfl, hnc, hcm, by simp, ?_⟩
    intro x hx i hi
    obtain rfl := Option.some.inj hx
    obtain ⟨h0, h1, h2, h3⟩ := celsQ_at qs i (by omega)
    exact ⟨hb, _, _, _, _, RdT.keep (fun b hb _ => ⟨hb.1, rfl⟩) (hr i hi (by omega)), hc g rfl _ _ h0, hc g rfl _ _ h1, hc g rfl _ _ h2, hc g rfl _ _ h3⟩
theorem OwnN.base {w : World} {base lo : Nat} {d : Nat} {l : List (T d)} {v : Value} (h : RdP (fun b => base ≤ b) w (RdT (fun b => base ≤ b) w d) l v) (hlo : lo ≤ base) : RdP (fun b => lo ≤ b) w (RdT (fun b => lo ≤ b) w d) l v :=
  h.keep (fun x _ u hu => RdT.keep (fun b hb _ => ⟨by omega, rfl⟩) hu) (fun b hb _ => ⟨by omega, rfl⟩)
theorem rdP_none (ok : Nat → Prop) (w : World) {d : Nat} : RdP ok w (RdT ok w d) [] (.slice none 0 0) := ⟨none, 0, rfl, by simp, by simp [maxLen], fun _ => rfl, fun x hx => by cases hx⟩
theorem rdT_none (ok : Nat → Prop) (w : World) {d : Nat} : RdT ok w (d + 1) none0 (.agg #[.int .i64 0, .int .i64 0, .string ⟨#[]⟩, .slice none 0 0]) := ⟨_, rfl, rdP_none ok w⟩
end Go.Proofs.YtifgbioacknjpaaGreatDoor

/- The document's reader in memory; what its is and fail do. -/
namespace Go.Proofs.YtifgbioacknjpaaGreatDoor
open Go.RowKit Go.Lib
set_option linter.unusedSimpArgs false
set_option linter.unusedVariables false
attribute [local go_sem ↓] Go.wp_at_zero Go.wp_at_succ


def RdX (ok : Nat → Prop) (w : World) (x : Sx) (v : Value) : Prop := RdT ok w x.1 x.2 v
theorem rdX_no (ok : Nat → Prop) (w : World) : RdX ok w noX (.agg #[.int .i64 0, .int .i64 0, .string ⟨#[]⟩, .slice none 0 0]) := rdT_none ok w
/-- It stays, where the blocks that it may lie in stay. -/
theorem RdX.keep {ok ok' : Nat → Prop} {w w' : World} {x : Sx} {v : Value} (h : RdX ok w x v) (hk : ∀ b, ok b → b < w.heap.size → ok' b ∧ w'.heap[b]? = w.heap[b]?) : RdX ok' w' x v := RdT.keep hk h
/-- Its four cells. -/
theorem RdX.form {ok : Nat → Prop} {w : World} {x : Sx} {v : Value} (h : RdX ok w x v) : ∃ k n s a m c, v = .agg #[.int .i64 k, .int .i64 n, .string s, .slice a m c] := by
  obtain ⟨d, t⟩ := x
  match d, t, h with
  | 0, t, _ => exact Empty.elim t
  | d + 1, t, h =>
    obtain ⟨k, n, s, ps, rfl⟩ := T.open t
    obtain ⟨sl, rfl, a, cap, rfl, _⟩ := rdT_mk.1 h
    exact ⟨k, n, s, a, _, cap, rfl⟩
end Go.Proofs.YtifgbioacknjpaaGreatDoor

/- The decoder of runes at this program, and the two tables that it reads. -/
namespace Go.Proofs.YtifgbioacknjpaaGreatDoor
open Go.Shelf Go.RowKit
set_option linter.unusedVariables false

def renU : Ren := { f := fun x => match x with | 197 => 114 | 260 => 144 | n => n, t := fun x => match x with | 9 => 9 | 21 => 21 | 3 => 3 | 4 => 4 | 5 => 5 | 105 => 135 | 119 => 226 | 0 => 0 | 46 => 209 | 139 => 229 | 138 => 228 | n => n, g := fun x => match x with | 3 => 1 | 4 => 2 | n => n }
theorem laysU : Lays.n197 Tryz.prog renU :=
  { mixed := by kernel_rfl, f197 := Tryz.func114.trans (congrArg some (by kernel_rfl)), f260 := Tryz.func144.trans (congrArg some (by kernel_rfl)), t0 := Tryz.underlying0, a0 := Tryz.isAgg0, z0 := Tryz.sizeOf0, v0 := Tryz.zeroValue0, t3 := Tryz.underlying3, a3 := Tryz.isAgg3, z3 := Tryz.sizeOf3, v3 := Tryz.zeroValue3, t4 := Tryz.underlying4, a4 := Tryz.isAgg4, z4 := Tryz.sizeOf4, v4 := Tryz.zeroValue4, t5 := Tryz.underlying5, a5 := Tryz.isAgg5, z5 := Tryz.sizeOf5, v5 := Tryz.zeroValue5, t9 := Tryz.underlying9, a9 := Tryz.isAgg9, z9 := Tryz.sizeOf9, v9 := Tryz.zeroValue9, t21 := Tryz.underlying21, a21 := Tryz.isAgg21, z21 := Tryz.sizeOf21, v21 := Tryz.zeroValue21, t46 := Tryz.underlying209, a46 := Tryz.isAgg209, z46 := Tryz.sizeOf209, v46 := Tryz.zeroValue209, t105 := Tryz.underlying135, a105 := Tryz.isAgg135, z105 := Tryz.sizeOf135, v105 := Tryz.zeroValue135, t119 := Tryz.underlying226, a119 := Tryz.isAgg226, z119 := Tryz.sizeOf226, t138 := Tryz.underlying228, a138 := Tryz.isAgg228, z138 := Tryz.sizeOf228, v138 := Tryz.zeroValue228, t139 := Tryz.underlying229, a139 := Tryz.isAgg229, z139 := Tryz.sizeOf229, v139 := Tryz.zeroValue229, g3 := by kernel_rfl, g4 := by kernel_rfl }
/-- The tables' cells. -/
def Tabs (w : World) : Prop := Lib.Utf8Tabs 1 2 w
theorem Tabs.below {w w' : World} {B : Nat} (h : Tabs w) (hb : Below B w w') (hB : w.heap.size ≤ B) : Tabs w' := by
  have k : ∀ {p : Addr} {v : Value}, w.cell? p = some v → w'.cell? p = some v := fun {p v} hc => by
    have hlt := World.block_lt_of_cell? w _ hc
    rw [hb.cell (by omega)]
    exact hc
  exact ⟨fun c hc => k (h.1 c hc), fun i hi => ⟨k (h.2 i hi).1, k (h.2 i hi).2⟩⟩
theorem decode_any (s : ByteArray) (w : World) (hT : Tabs w) :
    Calls Tryz.prog 114 #[.string s] w fun e w' => e = .returned (.tuple #[.int .i32 (Lib.decodeGo s).1, .int .i64 (Lib.decodeGo s).2]) ∧ Below w.heap.size w w' :=
  Any.utf8_DecodeRuneInString laysU s w hT
theorem extraU : U8Extra Tryz.prog renU := { n3 := by kernel_rfl, n4 := by kernel_rfl, y3 := by kernel_rfl, y4 := by kernel_rfl, c5 := by kernel_rfl, c119 := by kernel_rfl, c138 := by kernel_rfl }
theorem tabs_of {w : World} {n3 n4 : String} {L : List (String × DataW Unit)} (h : laidMetH Tryz.prog L w) (hp : (L.all fun x => x.2.handleName?.isNone) = true) (m4 : (n4, Rows.laid_unicode_utf8_acceptRanges) ∈ L) (m3 : (n3, Rows.laid_unicode_utf8_first) ∈ L)
    (e3' : Lib.VarReads Tryz.prog w n3 Lib.firstData → Lib.VarReads Tryz.prog w n4 Lib.acceptData → Lib.Utf8Tabs (renU.g 3) (renU.g 4) w) : Tabs w := by
  rw [MakeChecks.laidMetH_plain _ _ _ hp] at h
  have h4 := Lib.laidMet.reads h (n := n4) (d := Rows.laid_unicode_utf8_acceptRanges) m4
  have h3 := Lib.laidMet.reads h (n := n3) (d := Rows.laid_unicode_utf8_first) m3
  have d4 : (Rows.laid_unicode_utf8_acceptRanges : DataW Unit) = Lib.acceptData := by kernel_rfl
  have d3 : Rows.laid_unicode_utf8_first = Lib.firstData := Pinned.utf8First_eq
  rw [d4] at h4
  rw [d3] at h3
  exact e3' h3 h4
end Go.Proofs.YtifgbioacknjpaaGreatDoor

/- What the document's Letter, digit, inside, next, run and Name do. -/
namespace Go.Proofs.YtifgbioacknjpaaGreatDoor
open Go.RowKit Go.Lib
set_option linter.unusedSimpArgs false
set_option linter.unusedVariables false

theorem refLetter_any (r : Int) (w : World) : Calls Tryz.prog 116 #[.int .i32 r] w fun e w' => e = .returned (.bool (letter r)) ∧ w = w' := by
  rw [letter_eq]
  go_enter Tryz.func116, Tryz.ntmps116
  go_wp2
  all_goals go_ret
  all_goals (refine ⟨ret_bool ?_, rfl⟩; first | rfl | (rw [Bool.eq_iff_iff]; simp; omega) | (rw [Bool.eq_iff_iff]; simp [*]; omega))
theorem refDigit_any (r : Int) (w : World) : Calls Tryz.prog 117 #[.int .i32 r] w fun e w' => e = .returned (.bool (dgt r)) ∧ w = w' := by
  rw [dgt_eq]
  go_enter Tryz.func117, Tryz.ntmps117
  go_wp2
  all_goals go_ret
  all_goals (refine ⟨ret_bool ?_, rfl⟩; first | rfl | (rw [Bool.eq_iff_iff]; simp; omega) | (rw [Bool.eq_iff_iff]; simp [*]; omega))
theorem refInside_any (r : Int) (w : World) : Calls Tryz.prog 145 #[.int .i32 r] w fun e w' => e = .returned (.bool (insd r)) ∧ w = w' := by
  have h1 := refLetter_any r w
  have h2 := refDigit_any r w
  have h3 : insd r = (letter r || dgt r || r == 95) := rfl
  rw [h3]
  cases ha : letter r <;> rw [ha] at h1
  · cases hb : dgt r <;> rw [hb] at h2
    · go_enter Tryz.func145, Tryz.ntmps145
      go_wp2_with (first
        | (go_at_call 116; refine h1.mono ?_; rintro e w' ⟨rfl, rfl⟩)
        | (go_at_call 117; refine h2.mono ?_; rintro e w' ⟨rfl, rfl⟩))
      go_ret
      exact ⟨ret_bool (by simp), rfl⟩
    · go_enter Tryz.func145, Tryz.ntmps145
      go_wp2_with (first
        | (go_at_call 116; refine h1.mono ?_; rintro e w' ⟨rfl, rfl⟩)
        | (go_at_call 117; refine h2.mono ?_; rintro e w' ⟨rfl, rfl⟩))
      go_ret
      exact ⟨ret_bool (by simp), rfl⟩
  · go_enter Tryz.func145, Tryz.ntmps145
    go_wp2_with (first
      | (go_at_call 116; refine h1.mono ?_; rintro e w' ⟨rfl, rfl⟩)
      | (go_at_call 117; refine h2.mono ?_; rintro e w' ⟨rfl, rfl⟩))
    go_ret
    exact ⟨ret_bool (by simp), rfl⟩

theorem decodeGo_nil {s : ByteArray} (h : bl s = []) : Lib.decodeGo s = (65533, 0) := by
  unfold Lib.decodeGo
  rw [if_pos]
  rw [← bl_length, h]; rfl
theorem decodeGo_eq {s : ByteArray} (h : bl s ≠ []) : Lib.decodeGo s = decodeL (bl s) := by
  unfold Lib.decodeGo
  rw [if_neg, ← decodeL_drop s 0, List.drop_zero]
  intro e
  exact h (List.eq_nil_of_length_eq_zero (by rw [bl_length]; exact e))

theorem refNext_any (s : ByteArray) (w : World) (hT : Tabs w) :
    Calls Tryz.prog 70 #[.string s] w fun e w' => e = .returned (tup2 (nx (bl s)).1 (nx (bl s)).2) ∧ Below w.heap.size w w' := by
  have h1 := decode_any s w hT
  obtain ⟨a, ha⟩ : ∃ a, (Lib.decodeGo s).1 = a := ⟨_, rfl⟩
  obtain ⟨b, hb⟩ : ∃ b, (Lib.decodeGo s).2 = b := ⟨_, rfl⟩
  rw [ha, hb] at h1
  have hn : nx (bl s) = if a = 65533 ∧ b ≤ 1 then (-1, b) else ((a : Int), b) := by
    by_cases hl : bl s = []
    · have := decodeGo_nil hl
      rw [this] at ha hb
      simp only at ha hb
      subst ha; subst hb
      rw [hl]; rfl
    · unfold nx
      rw [if_neg hl, ← decodeGo_eq hl, ha, hb]
  by_cases h1' : a = 65533
  · by_cases h2' : b ≤ 1
    · rw [hn, if_pos ⟨h1', h2'⟩]
      have e1 : ((a : Int) == 65533) = true := by simp; omega
      have e2 : (b : Int) ≤ 1 := by omega
      clear hn ha hb h1'
      go_enter Tryz.func70, Tryz.ntmps70
      go_wp2_with (first
        | (go_at_call 114; refine h1.mono ?_; rintro e w1 ⟨rfl, b1⟩))
      go_ret2
      exact ⟨rfl, b1⟩
    · rw [hn, if_neg (fun h => h2' h.2)]
      have e1 : ((a : Int) == 65533) = true := by simp; omega
      have e2 : ¬ (b : Int) ≤ 1 := by omega
      clear hn ha hb h1'
      go_enter Tryz.func70, Tryz.ntmps70
      go_wp2_with (first
        | (go_at_call 114; refine h1.mono ?_; rintro e w1 ⟨rfl, b1⟩))
      go_ret2
      exact ⟨rfl, b1⟩
  · rw [hn, if_neg (fun h => h1' h.1)]
    have e1 : ((a : Int) == 65533) = false := by simp; omega
    clear hn ha hb
    go_enter Tryz.func70, Tryz.ntmps70
    go_wp2_with (first
      | (go_at_call 114; refine h1.mono ?_; rintro e w1 ⟨rfl, b1⟩))
    go_ret2
    exact ⟨rfl, b1⟩

set_option maxHeartbeats 400000 in
theorem refRun_any (s : ByteArray) (w : World) (hT : Tabs w) (hs : s.size ≤ 140737488351232) :
    Calls Tryz.prog 115 #[.string s] w fun e w' => e = .returned (.tuple #[.int .i64 (spb (bl s) : Int), .int .i64 (spn (runes (bl s)) : Int)]) ∧ Below w.heap.size w w' := by
  go_enter Tryz.func115, Tryz.ntmps115
  go_wp2
  go_loopw [4, 5] (fun a b wr => ∃ (m k : Nat), a = .int .i64 (k : Int) ∧ b = .int .i64 (m : Int) ∧ Hid (Adv (bl s) m k) ∧ Below w.heap.size w wr) (fun a _ _ => s.size - (RowKit.intOf a).toNat)
  case atStart => exact ⟨0, 0, rfl, rfl, Adv.zero _, Below.refl _ _⟩
  case round =>
    obtain ⟨m, k, rfl, rfl, ha, hb⟩ := hrel
    have hle := ha.out.le
    have hfw := ha.out.few
    rw [bl_length] at hle
    have hTr := hT.below hb (Nat.le_refl _)
    by_cases hk : k < s.size
    · have hk' : (k : Int) < (s.size : Int) := by omega
      have hk0 : (0 : Int) ≤ (k : Int) := by omega
      have h20 := refNext_any (s.extract k s.size) _ hTr
      rw [bl_from] at h20
      have hne := drop_ne (l := bl s) (by rw [bl_length]; exact hk)
      have hps := nx_pos hne
      have hnl := nx_le hne
      rw [List.length_drop, bl_length] at hnl
      obtain ⟨r, hr⟩ : ∃ r, (nx ((bl s).drop k)).1 = r := ⟨_, rfl⟩
      obtain ⟨q, hq⟩ : ∃ q, (nx ((bl s).drop k)).2 = q := ⟨_, rfl⟩
      rw [hr, hq] at h20
      rw [hq] at hps hnl
      have hw : IntKind.i64.wrap ((k : Int) + (q : Int)) = (k : Int) + q := by rw [IntKind.wrap_i64]; omega
      have hw1 : IntKind.i64.wrap ((m : Int) + 1) = (m : Int) + 1 := by rw [IntKind.wrap_i64]; omega
      have h26 := fun w1 => refInside_any r w1
      cases hi : insd r with
      | true =>
        rw [hi] at h26
        have hA : Hid (Adv (bl s) (m + 1) (k + q)) := by have := ha.out.step (by rw [bl_length]; exact hk) (by rw [hr]; exact hi); rw [hq] at this; exact this
        clear hr hq hne hi hT hTr
        go_wp2_with (first
          | (go_at_call 70; refine h20.mono ?_; rintro e w1 ⟨rfl, b1⟩)
          | (go_at_call 145; refine (h26 _).mono ?_; rintro e w' ⟨rfl, rfl⟩))
        go_roundw
        case rel => exact ⟨m + 1, k + q, by go_num, by go_num, hA, hb.trans (b1.mono hb.size)⟩
        case measure => simp [RowKit.intOf]; omega
      | false =>
        rw [hi] at h26
        have hE : Hid (spn (runes (bl s)) = m) := ha.out.stop (.inr (by rw [hr]; exact hi))
        have hZ : Hid (spb (bl s) = k) := by show spb (bl s) = k; unfold spb; rw [hE.out]; exact ha.out.size
        clear hr hq hne hi hT hTr
        go_wp2_with (first
          | (go_at_call 70; refine h20.mono ?_; rintro e w1 ⟨rfl, b1⟩)
          | (go_at_call 145; refine (h26 _).mono ?_; rintro e w' ⟨rfl, rfl⟩))
        go_ret2
        rw [hE.out, hZ.out]
        exact ⟨rfl, hb.trans (b1.mono hb.size)⟩
    · have hk' : ¬ (k : Int) < (s.size : Int) := by omega
      have hE : Hid (spn (runes (bl s)) = m) := ha.out.stop (.inl (by rw [bl_length]; omega))
      have hZ : Hid (spb (bl s) = k) := by show spb (bl s) = k; unfold spb; rw [hE.out]; exact ha.out.size
      clear hT hTr
      go_wp2
      go_ret2
      rw [hE.out, hZ.out]
      exact ⟨rfl, hb⟩

set_option maxHeartbeats 400000 in
theorem refName_any (s : ByteArray) (w : World) (hT : Tabs w) (hs : s.size ≤ 140737488351232) :
    Calls Tryz.prog 79 #[.string s] w fun e w' => e = .returned (.bool (nameS (bl s))) ∧ Below w.heap.size w w' := by
  have h1 := refNext_any s w hT
  have h2 := fun w1 (hb : Below w.heap.size w w1) => refRun_any s w1 (hT.below hb (Nat.le_refl _)) hs
  have h3 : nameS (bl s) = (letter (nx (bl s)).1 && ((spb (bl s) : Int) == (s.size : Int)) && decide (spn (runes (bl s)) ≤ 24)) := rfl
  rw [h3]
  have h12 := fun w1 => refLetter_any (nx (bl s)).1 w1
  obtain ⟨r, hr⟩ : ∃ r, (nx (bl s)).1 = r := ⟨_, rfl⟩
  obtain ⟨q, hq⟩ : ∃ q, (nx (bl s)).2 = q := ⟨_, rfl⟩
  obtain ⟨k, hk⟩ : ∃ k, spb (bl s) = k := ⟨_, rfl⟩
  obtain ⟨m, hm⟩ : ∃ m, spn (runes (bl s)) = m := ⟨_, rfl⟩
  rw [hr] at h1 h12 ⊢
  rw [hq] at h1
  simp only [hk, hm] at h2 ⊢
  obtain ⟨a, ha⟩ : ∃ a, letter r = a := ⟨_, rfl⟩
  rw [ha] at h12 ⊢
  have e3 : decide (m ≤ 24) = decide ((m : Int) ≤ 24) := by rw [Bool.eq_iff_iff]; simp; omega
  rw [e3]
  clear h3 hr hq hk hm ha e3
  cases a
  · go_enter Tryz.func79, Tryz.ntmps79
    go_wp2_with (first
      | (go_at_call 70; refine h1.mono ?_; rintro e w1 ⟨rfl, b1⟩; have h2' := h2 w1 b1; clear h1 h2)
      | (go_at_call 115; refine h2'.mono ?_; rintro e w2 ⟨rfl, b2⟩; have b3 := b1.trans (b2.mono b1.size); clear h2' b1 b2)
      | (go_at_call 116; refine (h12 _).mono ?_; rintro e w' ⟨rfl, rfl⟩; clear h12))
    go_ret
    exact ⟨ret_bool (by simp), b3⟩
  · cases hkl : ((k : Int) == (s.size : Int))
    · go_enter Tryz.func79, Tryz.ntmps79
      go_wp2_with (first
        | (go_at_call 70; refine h1.mono ?_; rintro e w1 ⟨rfl, b1⟩; have h2' := h2 w1 b1; clear h1 h2)
        | (go_at_call 115; refine h2'.mono ?_; rintro e w2 ⟨rfl, b2⟩; have b3 := b1.trans (b2.mono b1.size); clear h2' b1 b2)
        | (go_at_call 116; refine (h12 _).mono ?_; rintro e w' ⟨rfl, rfl⟩; clear h12))
      go_ret
      exact ⟨ret_bool (by simp), b3⟩
    · go_enter Tryz.func79, Tryz.ntmps79
      go_wp2_with (first
        | (go_at_call 70; refine h1.mono ?_; rintro e w1 ⟨rfl, b1⟩; have h2' := h2 w1 b1; clear h1 h2)
        | (go_at_call 115; refine h2'.mono ?_; rintro e w2 ⟨rfl, b2⟩; have b3 := b1.trans (b2.mono b1.size); clear h2' b1 b2)
        | (go_at_call 116; refine (h12 _).mono ?_; rintro e w' ⟨rfl, rfl⟩; clear h12))
      all_goals go_ret
      all_goals exact ⟨ret_bool (by simp), b3⟩

set_option maxHeartbeats 2000000 in
theorem refSign_one (s : ByteArray) (w : World) (c : UInt8) (h0 : 0 < s.size) (h1 : ¬ 1 < s.size) (hs0 : s[0] = c) (G : Nat) (hg : one (c.toNat : Int) = G) :
    Calls Tryz.prog 119 #[.string s] w fun e w' => e = .returned (.int .i64 (G : Int)) ∧ w = w' := by
  have hz : (0 : Int) < (s.size : Int) := by omega
  have hz1 : ¬ (1 : Int) < (s.size : Int) := by omega
  by_cases f0 : c.toNat = 123
  · have g0 : ((c.toNat : Int) == 123) = true := by simp; omega
    have hG : 1 = G := by rw [← hg]; exact (one_yes (by omega)).symm
    clear f0 hg
    subst hG
    go_enter Tryz.func119, Tryz.ntmps119
    go_wp2
    go_ret
    exact ⟨rfl, rfl⟩
  have g0 : ((c.toNat : Int) == 123) = false := beq_eq_false_iff_ne.2 (by omega)
  by_cases f1 : c.toNat = 125
  · have g1 : ((c.toNat : Int) == 125) = true := by simp; omega
    have hG : 1 = G := by rw [← hg]; exact (one_yes (by omega)).symm
    clear f1 hg f0
    subst hG
    go_enter Tryz.func119, Tryz.ntmps119
    go_wp2
    go_ret
    exact ⟨rfl, rfl⟩
  have g1 : ((c.toNat : Int) == 125) = false := beq_eq_false_iff_ne.2 (by omega)
  by_cases f2 : c.toNat = 40
  · have g2 : ((c.toNat : Int) == 40) = true := by simp; omega
    have hG : 1 = G := by rw [← hg]; exact (one_yes (by omega)).symm
    clear f2 hg f0 f1
    subst hG
    go_enter Tryz.func119, Tryz.ntmps119
    go_wp2
    go_ret
    exact ⟨rfl, rfl⟩
  have g2 : ((c.toNat : Int) == 40) = false := beq_eq_false_iff_ne.2 (by omega)
  by_cases f3 : c.toNat = 41
  · have g3 : ((c.toNat : Int) == 41) = true := by simp; omega
    have hG : 1 = G := by rw [← hg]; exact (one_yes (by omega)).symm
    clear f3 hg f0 f1 f2
    subst hG
    go_enter Tryz.func119, Tryz.ntmps119
    go_wp2
    go_ret
    exact ⟨rfl, rfl⟩
  have g3 : ((c.toNat : Int) == 41) = false := beq_eq_false_iff_ne.2 (by omega)
  by_cases f4 : c.toNat = 61
  · have g4 : ((c.toNat : Int) == 61) = true := by simp; omega
    have hG : 1 = G := by rw [← hg]; exact (one_yes (by omega)).symm
    clear f4 hg f0 f1 f2 f3
    subst hG
    go_enter Tryz.func119, Tryz.ntmps119
    go_wp2
    go_ret
    exact ⟨rfl, rfl⟩
  have g4 : ((c.toNat : Int) == 61) = false := beq_eq_false_iff_ne.2 (by omega)
  by_cases f5 : c.toNat = 33
  · have g5 : ((c.toNat : Int) == 33) = true := by simp; omega
    have hG : 1 = G := by rw [← hg]; exact (one_yes (by omega)).symm
    clear f5 hg f0 f1 f2 f3 f4
    subst hG
    go_enter Tryz.func119, Tryz.ntmps119
    go_wp2
    go_ret
    exact ⟨rfl, rfl⟩
  have g5 : ((c.toNat : Int) == 33) = false := beq_eq_false_iff_ne.2 (by omega)
  by_cases f6 : c.toNat = 60
  · have g6 : ((c.toNat : Int) == 60) = true := by simp; omega
    have hG : 1 = G := by rw [← hg]; exact (one_yes (by omega)).symm
    clear f6 hg f0 f1 f2 f3 f4 f5
    subst hG
    go_enter Tryz.func119, Tryz.ntmps119
    go_wp2
    go_ret
    exact ⟨rfl, rfl⟩
  have g6 : ((c.toNat : Int) == 60) = false := beq_eq_false_iff_ne.2 (by omega)
  by_cases f7 : c.toNat = 43
  · have g7 : ((c.toNat : Int) == 43) = true := by simp; omega
    have hG : 1 = G := by rw [← hg]; exact (one_yes (by omega)).symm
    clear f7 hg f0 f1 f2 f3 f4 f5 f6
    subst hG
    go_enter Tryz.func119, Tryz.ntmps119
    go_wp2
    go_ret
    exact ⟨rfl, rfl⟩
  have g7 : ((c.toNat : Int) == 43) = false := beq_eq_false_iff_ne.2 (by omega)
  by_cases f8 : c.toNat = 45
  · have g8 : ((c.toNat : Int) == 45) = true := by simp; omega
    have hG : 1 = G := by rw [← hg]; exact (one_yes (by omega)).symm
    clear f8 hg f0 f1 f2 f3 f4 f5 f6 f7
    subst hG
    go_enter Tryz.func119, Tryz.ntmps119
    go_wp2
    go_ret
    exact ⟨rfl, rfl⟩
  have g8 : ((c.toNat : Int) == 45) = false := beq_eq_false_iff_ne.2 (by omega)
  by_cases f9 : c.toNat = 42
  · have g9 : ((c.toNat : Int) == 42) = true := by simp; omega
    have hG : 1 = G := by rw [← hg]; exact (one_yes (by omega)).symm
    clear f9 hg f0 f1 f2 f3 f4 f5 f6 f7 f8
    subst hG
    go_enter Tryz.func119, Tryz.ntmps119
    go_wp2
    go_ret
    exact ⟨rfl, rfl⟩
  have g9 : ((c.toNat : Int) == 42) = false := beq_eq_false_iff_ne.2 (by omega)
  have hG : 0 = G := by rw [← hg]; exact (one_no (by omega)).symm
  clear hg f0 f1 f2 f3 f4 f5 f6 f7 f8 f9
  subst hG
  go_enter Tryz.func119, Tryz.ntmps119
  go_wp2
  go_ret
  exact ⟨rfl, rfl⟩

set_option maxHeartbeats 2000000 in
theorem refSign_two (s : ByteArray) (w : World) (c : UInt8) (h1 : 1 < s.size) (hs0 : s[0] = c) (G : Nat) (hg : one (c.toNat : Int) = G)
    (p0 : ((s.extract 0 2).toList == [61, 61]) = false)
    (p1 : ((s.extract 0 2).toList == [33, 61]) = false)
    (p2 : ((s.extract 0 2).toList == [60, 61]) = false)
    (p3 : ((s.extract 0 2).toList == [38, 38]) = false)
    (p4 : ((s.extract 0 2).toList == [124, 124]) = false)
    : Calls Tryz.prog 119 #[.string s] w fun e w' => e = .returned (.int .i64 (G : Int)) ∧ w = w' := by
  have hz : (0 : Int) < (s.size : Int) := by omega
  have hz1 : (1 : Int) < (s.size : Int) := by omega
  have hz2 : (2 : Int) ≤ (s.size : Int) := by omega
  by_cases f0 : c.toNat = 123
  · have g0 : ((c.toNat : Int) == 123) = true := by simp; omega
    have hG : 1 = G := by rw [← hg]; exact (one_yes (by omega)).symm
    clear f0 hg
    subst hG
    go_enter Tryz.func119, Tryz.ntmps119
    go_wp2
    go_ret
    exact ⟨rfl, rfl⟩
  have g0 : ((c.toNat : Int) == 123) = false := beq_eq_false_iff_ne.2 (by omega)
  by_cases f1 : c.toNat = 125
  · have g1 : ((c.toNat : Int) == 125) = true := by simp; omega
    have hG : 1 = G := by rw [← hg]; exact (one_yes (by omega)).symm
    clear f1 hg f0
    subst hG
    go_enter Tryz.func119, Tryz.ntmps119
    go_wp2
    go_ret
    exact ⟨rfl, rfl⟩
  have g1 : ((c.toNat : Int) == 125) = false := beq_eq_false_iff_ne.2 (by omega)
  by_cases f2 : c.toNat = 40
  · have g2 : ((c.toNat : Int) == 40) = true := by simp; omega
    have hG : 1 = G := by rw [← hg]; exact (one_yes (by omega)).symm
    clear f2 hg f0 f1
    subst hG
    go_enter Tryz.func119, Tryz.ntmps119
    go_wp2
    go_ret
    exact ⟨rfl, rfl⟩
  have g2 : ((c.toNat : Int) == 40) = false := beq_eq_false_iff_ne.2 (by omega)
  by_cases f3 : c.toNat = 41
  · have g3 : ((c.toNat : Int) == 41) = true := by simp; omega
    have hG : 1 = G := by rw [← hg]; exact (one_yes (by omega)).symm
    clear f3 hg f0 f1 f2
    subst hG
    go_enter Tryz.func119, Tryz.ntmps119
    go_wp2
    go_ret
    exact ⟨rfl, rfl⟩
  have g3 : ((c.toNat : Int) == 41) = false := beq_eq_false_iff_ne.2 (by omega)
  by_cases f4 : c.toNat = 61
  · have g4 : ((c.toNat : Int) == 61) = true := by simp; omega
    have hG : 1 = G := by rw [← hg]; exact (one_yes (by omega)).symm
    clear f4 hg f0 f1 f2 f3
    subst hG
    go_enter Tryz.func119, Tryz.ntmps119
    go_wp2
    go_ret
    exact ⟨rfl, rfl⟩
  have g4 : ((c.toNat : Int) == 61) = false := beq_eq_false_iff_ne.2 (by omega)
  by_cases f5 : c.toNat = 33
  · have g5 : ((c.toNat : Int) == 33) = true := by simp; omega
    have hG : 1 = G := by rw [← hg]; exact (one_yes (by omega)).symm
    clear f5 hg f0 f1 f2 f3 f4
    subst hG
    go_enter Tryz.func119, Tryz.ntmps119
    go_wp2
    go_ret
    exact ⟨rfl, rfl⟩
  have g5 : ((c.toNat : Int) == 33) = false := beq_eq_false_iff_ne.2 (by omega)
  by_cases f6 : c.toNat = 60
  · have g6 : ((c.toNat : Int) == 60) = true := by simp; omega
    have hG : 1 = G := by rw [← hg]; exact (one_yes (by omega)).symm
    clear f6 hg f0 f1 f2 f3 f4 f5
    subst hG
    go_enter Tryz.func119, Tryz.ntmps119
    go_wp2
    go_ret
    exact ⟨rfl, rfl⟩
  have g6 : ((c.toNat : Int) == 60) = false := beq_eq_false_iff_ne.2 (by omega)
  by_cases f7 : c.toNat = 43
  · have g7 : ((c.toNat : Int) == 43) = true := by simp; omega
    have hG : 1 = G := by rw [← hg]; exact (one_yes (by omega)).symm
    clear f7 hg f0 f1 f2 f3 f4 f5 f6
    subst hG
    go_enter Tryz.func119, Tryz.ntmps119
    go_wp2
    go_ret
    exact ⟨rfl, rfl⟩
  have g7 : ((c.toNat : Int) == 43) = false := beq_eq_false_iff_ne.2 (by omega)
  by_cases f8 : c.toNat = 45
  · have g8 : ((c.toNat : Int) == 45) = true := by simp; omega
    have hG : 1 = G := by rw [← hg]; exact (one_yes (by omega)).symm
    clear f8 hg f0 f1 f2 f3 f4 f5 f6 f7
    subst hG
    go_enter Tryz.func119, Tryz.ntmps119
    go_wp2
    go_ret
    exact ⟨rfl, rfl⟩
  have g8 : ((c.toNat : Int) == 45) = false := beq_eq_false_iff_ne.2 (by omega)
  by_cases f9 : c.toNat = 42
  · have g9 : ((c.toNat : Int) == 42) = true := by simp; omega
    have hG : 1 = G := by rw [← hg]; exact (one_yes (by omega)).symm
    clear f9 hg f0 f1 f2 f3 f4 f5 f6 f7 f8
    subst hG
    go_enter Tryz.func119, Tryz.ntmps119
    go_wp2
    go_ret
    exact ⟨rfl, rfl⟩
  have g9 : ((c.toNat : Int) == 42) = false := beq_eq_false_iff_ne.2 (by omega)
  have hG : 0 = G := by rw [← hg]; exact (one_no (by omega)).symm
  clear hg f0 f1 f2 f3 f4 f5 f6 f7 f8 f9
  subst hG
  go_enter Tryz.func119, Tryz.ntmps119
  go_wp2
  go_ret
  exact ⟨rfl, rfl⟩

set_option maxHeartbeats 2000000 in
theorem refSign_any (s : ByteArray) (w : World) (h0 : 0 < s.size) :
    Calls Tryz.prog 119 #[.string s] w fun e w' => e = .returned (.int .i64 (sgn (runes (bl s)) : Int)) ∧ w = w' := by
  have hlen : (bl s).length = s.size := rfl
  by_cases h1 : 1 < s.size
  · obtain ⟨c, d, r, hl⟩ : ∃ c d r, bl s = c :: d :: r := by
      match hb : bl s with
      | [] => rw [hb] at hlen; simp at hlen; omega
      | [_] => rw [hb] at hlen; simp at hlen; omega
      | c :: d :: r => exact ⟨c, d, r, rfl⟩
    have hs0 : s[0] = c := by
      have : s[0] = (bl s)[0]'(by omega) := rfl
      rw [this]; simp [hl]
    have hq : ∀ x y : UInt8, ((s.extract 0 2).toList == [x, y]) = (decide (c = x) && decide (d = y)) := fun x y => two_beq s c d x y r hl
    rw [hl, sgn_two]
    have hz : (0 : Int) < (s.size : Int) := by omega
    have hz1 : (1 : Int) < (s.size : Int) := by omega
    have hz2 : (2 : Int) ≤ (s.size : Int) := by omega
    by_cases a0 : c = 61 ∧ d = 61
    · have p0 : ((s.extract 0 2).toList == [61, 61]) = true := by rw [hq]; simp [a0.1, a0.2]
      have hG : (if pair (c.toNat : Int) (d.toNat : Int) = true then 2 else one (c.toNat : Int)) = 2 := by rw [a0.1, a0.2]; decide
      rw [hG]
      clear hq a0 hG
      go_enter Tryz.func119, Tryz.ntmps119
      go_wp2
      go_ret
      exact ⟨rfl, rfl⟩
    have p0 : ((s.extract 0 2).toList == [61, 61]) = false := by rw [hq]; exact and_no a0
    by_cases a1 : c = 33 ∧ d = 61
    · have p1 : ((s.extract 0 2).toList == [33, 61]) = true := by rw [hq]; simp [a1.1, a1.2]
      have hG : (if pair (c.toNat : Int) (d.toNat : Int) = true then 2 else one (c.toNat : Int)) = 2 := by rw [a1.1, a1.2]; decide
      rw [hG]
      clear hq a1 hG a0
      go_enter Tryz.func119, Tryz.ntmps119
      go_wp2
      go_ret
      exact ⟨rfl, rfl⟩
    have p1 : ((s.extract 0 2).toList == [33, 61]) = false := by rw [hq]; exact and_no a1
    by_cases a2 : c = 60 ∧ d = 61
    · have p2 : ((s.extract 0 2).toList == [60, 61]) = true := by rw [hq]; simp [a2.1, a2.2]
      have hG : (if pair (c.toNat : Int) (d.toNat : Int) = true then 2 else one (c.toNat : Int)) = 2 := by rw [a2.1, a2.2]; decide
      rw [hG]
      clear hq a2 hG a0 a1
      go_enter Tryz.func119, Tryz.ntmps119
      go_wp2
      go_ret
      exact ⟨rfl, rfl⟩
    have p2 : ((s.extract 0 2).toList == [60, 61]) = false := by rw [hq]; exact and_no a2
    by_cases a3 : c = 38 ∧ d = 38
    · have p3 : ((s.extract 0 2).toList == [38, 38]) = true := by rw [hq]; simp [a3.1, a3.2]
      have hG : (if pair (c.toNat : Int) (d.toNat : Int) = true then 2 else one (c.toNat : Int)) = 2 := by rw [a3.1, a3.2]; decide
      rw [hG]
      clear hq a3 hG a0 a1 a2
      go_enter Tryz.func119, Tryz.ntmps119
      go_wp2
      go_ret
      exact ⟨rfl, rfl⟩
    have p3 : ((s.extract 0 2).toList == [38, 38]) = false := by rw [hq]; exact and_no a3
    by_cases a4 : c = 124 ∧ d = 124
    · have p4 : ((s.extract 0 2).toList == [124, 124]) = true := by rw [hq]; simp [a4.1, a4.2]
      have hG : (if pair (c.toNat : Int) (d.toNat : Int) = true then 2 else one (c.toNat : Int)) = 2 := by rw [a4.1, a4.2]; decide
      rw [hG]
      clear hq a4 hG a0 a1 a2 a3
      go_enter Tryz.func119, Tryz.ntmps119
      go_wp2
      go_ret
      exact ⟨rfl, rfl⟩
    have p4 : ((s.extract 0 2).toList == [124, 124]) = false := by rw [hq]; exact and_no a4
    have hp : pair (c.toNat : Int) (d.toNat : Int) = false := by
      have hi : ∀ (x : UInt8) (k : Nat), (k : Int) = (x.toNat : Int) → x = UInt8.ofNat k := fun x k h => by
        have e : k = x.toNat := by omega
        rw [e]; simp
      refine decide_eq_false ?_
      rintro (⟨hb, ha⟩ | ⟨ha, hb⟩ | ⟨ha, hb⟩)
      · rcases ha with ha | ha | ha
        · exact a0 ⟨hi c 61 ha.symm, hi d 61 hb.symm⟩
        · exact a1 ⟨hi c 33 ha.symm, hi d 61 hb.symm⟩
        · exact a2 ⟨hi c 60 ha.symm, hi d 61 hb.symm⟩
      · exact a3 ⟨hi c 38 ha.symm, hi d 38 hb.symm⟩
      · exact a4 ⟨hi c 124 ha.symm, hi d 124 hb.symm⟩
    have hG : (if pair (c.toNat : Int) (d.toNat : Int) = true then 2 else one (c.toNat : Int)) = one (c.toNat : Int) := by rw [hp]; rfl
    rw [hG]
    exact refSign_two s w c h1 hs0 _ rfl p0 p1 p2 p3 p4
  · obtain ⟨c, hl⟩ : ∃ c, bl s = [c] := by
      match hb : bl s with
      | [] => rw [hb] at hlen; simp at hlen; omega
      | [c] => exact ⟨c, rfl⟩
      | _ :: _ :: _ => rw [hb] at hlen; simp at hlen; omega
    have hs0 : s[0] = c := by
      have : s[0] = (bl s)[0]'(by omega) := rfl
      rw [this]; simp [hl]
    rw [hl, sgn_one]
    exact refSign_one s w c h0 h1 hs0 _ rfl

set_option maxHeartbeats 2000000 in
theorem refNumber_val (s : ByteArray) (w : World) (hs : s.size ≤ 140737488351232) :
    Calls Tryz.prog 118 #[.string s] w fun e w' => (∃ x : Int, e = .returned (.tuple #[.int .i64 x, .bool (numB (bl s))]) ∧ Hid (numB (bl s) = true → x = valB 0 (bl s))) ∧ w = w' := by
  have hlen : (bl s).length = s.size := rfl
  by_cases h1 : s.size < 1
  · rw [numB_len (by omega)]
    have e1 : (s.size : Int) < 1 := by omega
    go_enter Tryz.func118, Tryz.ntmps118
    go_wp2
    go_ret2
    first | exact ⟨⟨_, rfl, fun h => by cases h⟩, rfl⟩ | exact ⟨trivial, rfl⟩ | exact ⟨⟨_, rfl, (trivial : True)⟩, rfl⟩ | exact ⟨⟨_, rfl⟩, rfl⟩ | exact ⟨⟨⟨_, rfl⟩, trivial⟩, rfl⟩
  have e1 : ¬ (s.size : Int) < 1 := by omega
  by_cases h2 : 10 < s.size
  · rw [numB_len (by omega)]
    have e2 : (s.size : Int) > 10 := by omega
    go_enter Tryz.func118, Tryz.ntmps118
    go_wp2
    go_ret2
    first | exact ⟨⟨_, rfl, fun h => by cases h⟩, rfl⟩ | exact ⟨trivial, rfl⟩ | exact ⟨⟨_, rfl, (trivial : True)⟩, rfl⟩ | exact ⟨⟨_, rfl⟩, rfl⟩ | exact ⟨⟨⟨_, rfl⟩, trivial⟩, rfl⟩
  have e2 : ¬ (s.size : Int) > 10 := by omega
  obtain ⟨c, r, hl⟩ : ∃ c r, bl s = c :: r := by
    match hb : bl s with
    | [] => rw [hb] at hlen; simp at hlen; omega
    | c :: r => exact ⟨c, r, rfl⟩
  have hs0 : s[0] = c := by rw [get_bl]; simp [hl]
  have hz : (0 : Int) < (s.size : Int) := by omega
  by_cases h3 : c.toNat = 48 ∧ 1 < s.size
  · rw [hl, numB_nought h3.1 (by rw [← hl, hlen]; exact h3.2)]
    have e3 : ((c.toNat : Int) == 48) = true := by simp; omega
    have e4 : (s.size : Int) > 1 := by omega
    clear h3
    go_enter Tryz.func118, Tryz.ntmps118
    go_wp2
    go_ret2
    first | exact ⟨⟨_, rfl, fun h => by cases h⟩, rfl⟩ | exact ⟨trivial, rfl⟩ | exact ⟨⟨_, rfl, (trivial : True)⟩, rfl⟩ | exact ⟨⟨_, rfl⟩, rfl⟩ | exact ⟨⟨⟨_, rfl⟩, trivial⟩, rfl⟩
  have hL1 : 1 ≤ (bl s).length ∧ (bl s).length ≤ 10 := by omega
  have hL2 : ¬ (((bl s).headD 0).toNat = 48 ∧ 1 < (bl s).length) := by rw [hlen, hl]; exact h3
  have HA : Hid ((bl s).all dB = true → numB (bl s) = decide (valB 0 (bl s) ≤ 1000000000)) := fun h => numB_all hL1 hL2 h
  have H0 : Hid (valB 0 ((bl s).drop 0) = valB 0 (bl s)) := rfl
  have hgate : (((c.toNat : Int) == 48) && decide ((s.size : Int) > 1)) = false := by
    rw [Bool.and_eq_false_iff]
    rcases Decidable.not_and_iff_or_not.1 h3 with h | h
    · exact .inl (beq_eq_false_iff_ne.2 (by omega))
    · exact .inr (decide_eq_false (by omega))
  clear h3 hL2 hL1 hl
  cases hb : ((c.toNat : Int) == 48) with
  | true =>
    rw [hb, Bool.true_and] at hgate
    go_enter Tryz.func118, Tryz.ntmps118
    go_wp2
    go_loop [4, 5] (fun a b => ∃ (n : Int) (k : Nat), a = .int .i64 n ∧ b = .int .i64 (k : Int) ∧ k ≤ s.size ∧ Hid (valB n ((bl s).drop k) = valB 0 (bl s)) ∧ Hid (((bl s).take k).all dB = true) ∧ 0 ≤ n ∧ Hid (n < 10 ^ k)) (fun _ b => s.size - (RowKit.intOf b).toNat)
    case atStart => exact ⟨0, 0, rfl, rfl, by omega, H0, rfl, by omega, (show (0 : Int) < 10 ^ 0 by decide)⟩
    case round =>
      obtain ⟨n, k, rfl, rfl, hk, hv, ha, hn0, hn1⟩ := hrel
      by_cases hlt : k < s.size
      · have e5 : (k : Int) < (s.size : Int) := by omega
        have e6 : (0 : Int) ≤ (k : Int) := by omega
        obtain ⟨d, hd⟩ : ∃ d, s[k] = d := ⟨_, rfl⟩
        have hdl : (bl s)[k]'(by rw [hlen]; exact hlt) = d := by rw [← get_bl]; exact hd
        have hp := pow_le9 (k := k) (by omega)
        have hnb : n < 1000000000 := by have := hn1.out; omega
        by_cases hdg : 48 ≤ d.toNat ∧ d.toNat ≤ 57
        · have e7 : ¬ (d.toNat : Int) < 48 := by omega
          have e8 : ¬ (d.toNat : Int) > 57 := by omega
          have hA : Hid (((bl s).take (k + 1)).all dB = true) := all_step ha.out (by rw [hlen]; exact hlt) (by rw [hdl]; exact dB_yes hdg)
          have hV : Hid (valB (10 * n + ((d.toNat : Int) - 48)) ((bl s).drop (k + 1)) = valB 0 (bl s)) := by have := valB_step hv.out (by rw [hlen]; exact hlt); rw [hdl] at this; exact this
          have hN : Hid (10 * n + ((d.toNat : Int) - 48) < 10 ^ (k + 1)) := by show 10 * n + ((d.toNat : Int) - 48) < 10 ^ (k + 1); rw [pow_next]; have := hn1.out; omega
          have w1 : IntKind.u8.wrap ((d.toNat : Int) - 48) = (d.toNat : Int) - 48 := by rw [IntKind.wrap_u8]; omega
          have hN0 : 0 ≤ 10 * n + ((d.toNat : Int) - 48) := by omega
          clear hdl hp
          go_wp2
          go_round
          case rel => exact ⟨_, k + 1, rfl, by go_num, by omega, hV, hA, hN0, hN⟩
          case measure => simp [RowKit.intOf]; omega
        · have hF : Hid (numB (bl s) = false) := numB_not (all_no (k := k) (by rw [hlen]; exact hlt) (by rw [hdl]; exact dB_no hdg))
          clear hdl hp
          by_cases hlo : d.toNat < 48
          · have e7 : (d.toNat : Int) < 48 := by omega
            go_wp2
            go_ret2
            rw [hF.out]
            first | exact ⟨⟨_, rfl, fun h => by cases h⟩, rfl⟩ | exact ⟨trivial, rfl⟩ | exact ⟨⟨_, rfl, (trivial : True)⟩, rfl⟩ | exact ⟨⟨_, rfl⟩, rfl⟩ | exact ⟨⟨⟨_, rfl⟩, trivial⟩, rfl⟩
          · have e7 : ¬ (d.toNat : Int) < 48 := by omega
            have e8 : (d.toNat : Int) > 57 := by omega
            go_wp2
            go_ret2
            rw [hF.out]
            first | exact ⟨⟨_, rfl, fun h => by cases h⟩, rfl⟩ | exact ⟨trivial, rfl⟩ | exact ⟨⟨_, rfl, (trivial : True)⟩, rfl⟩ | exact ⟨⟨_, rfl⟩, rfl⟩ | exact ⟨⟨⟨_, rfl⟩, trivial⟩, rfl⟩
      · have e5 : ¬ (k : Int) < (s.size : Int) := by omega
        have hall : Hid ((bl s).all dB = true) := by have := ha.out; rw [List.take_of_length_le (by rw [hlen]; omega)] at this; exact this
        have hval : Hid (valB 0 (bl s) = n) := (valB_end hv.out (by rw [hlen]; omega)).symm
        have hF : Hid (numB (bl s) = decide (n ≤ 1000000000)) := by show numB (bl s) = _; rw [HA.out hall.out, hval.out]
        clear hn0
        go_wp2
        all_goals go_ret2
        all_goals rw [hF.out]
        all_goals exact ⟨⟨_, rfl, fun _ => hval.out.symm⟩, rfl⟩
  | false =>
    clear hgate
    go_enter Tryz.func118, Tryz.ntmps118
    go_wp2
    go_loop [4, 5] (fun a b => ∃ (n : Int) (k : Nat), a = .int .i64 n ∧ b = .int .i64 (k : Int) ∧ k ≤ s.size ∧ Hid (valB n ((bl s).drop k) = valB 0 (bl s)) ∧ Hid (((bl s).take k).all dB = true) ∧ 0 ≤ n ∧ Hid (n < 10 ^ k)) (fun _ b => s.size - (RowKit.intOf b).toNat)
    case atStart => exact ⟨0, 0, rfl, rfl, by omega, H0, rfl, by omega, (show (0 : Int) < 10 ^ 0 by decide)⟩
    case round =>
      obtain ⟨n, k, rfl, rfl, hk, hv, ha, hn0, hn1⟩ := hrel
      by_cases hlt : k < s.size
      · have e5 : (k : Int) < (s.size : Int) := by omega
        have e6 : (0 : Int) ≤ (k : Int) := by omega
        obtain ⟨d, hd⟩ : ∃ d, s[k] = d := ⟨_, rfl⟩
        have hdl : (bl s)[k]'(by rw [hlen]; exact hlt) = d := by rw [← get_bl]; exact hd
        have hp := pow_le9 (k := k) (by omega)
        have hnb : n < 1000000000 := by have := hn1.out; omega
        by_cases hdg : 48 ≤ d.toNat ∧ d.toNat ≤ 57
        · have e7 : ¬ (d.toNat : Int) < 48 := by omega
          have e8 : ¬ (d.toNat : Int) > 57 := by omega
          have hA : Hid (((bl s).take (k + 1)).all dB = true) := all_step ha.out (by rw [hlen]; exact hlt) (by rw [hdl]; exact dB_yes hdg)
          have hV : Hid (valB (10 * n + ((d.toNat : Int) - 48)) ((bl s).drop (k + 1)) = valB 0 (bl s)) := by have := valB_step hv.out (by rw [hlen]; exact hlt); rw [hdl] at this; exact this
          have hN : Hid (10 * n + ((d.toNat : Int) - 48) < 10 ^ (k + 1)) := by show 10 * n + ((d.toNat : Int) - 48) < 10 ^ (k + 1); rw [pow_next]; have := hn1.out; omega
          have w1 : IntKind.u8.wrap ((d.toNat : Int) - 48) = (d.toNat : Int) - 48 := by rw [IntKind.wrap_u8]; omega
          have hN0 : 0 ≤ 10 * n + ((d.toNat : Int) - 48) := by omega
          clear hdl hp
          go_wp2
          go_round
          case rel => exact ⟨_, k + 1, rfl, by go_num, by omega, hV, hA, hN0, hN⟩
          case measure => simp [RowKit.intOf]; omega
        · have hF : Hid (numB (bl s) = false) := numB_not (all_no (k := k) (by rw [hlen]; exact hlt) (by rw [hdl]; exact dB_no hdg))
          clear hdl hp
          by_cases hlo : d.toNat < 48
          · have e7 : (d.toNat : Int) < 48 := by omega
            go_wp2
            go_ret2
            rw [hF.out]
            first | exact ⟨⟨_, rfl, fun h => by cases h⟩, rfl⟩ | exact ⟨trivial, rfl⟩ | exact ⟨⟨_, rfl, (trivial : True)⟩, rfl⟩ | exact ⟨⟨_, rfl⟩, rfl⟩ | exact ⟨⟨⟨_, rfl⟩, trivial⟩, rfl⟩
          · have e7 : ¬ (d.toNat : Int) < 48 := by omega
            have e8 : (d.toNat : Int) > 57 := by omega
            go_wp2
            go_ret2
            rw [hF.out]
            first | exact ⟨⟨_, rfl, fun h => by cases h⟩, rfl⟩ | exact ⟨trivial, rfl⟩ | exact ⟨⟨_, rfl, (trivial : True)⟩, rfl⟩ | exact ⟨⟨_, rfl⟩, rfl⟩ | exact ⟨⟨⟨_, rfl⟩, trivial⟩, rfl⟩
      · have e5 : ¬ (k : Int) < (s.size : Int) := by omega
        have hall : Hid ((bl s).all dB = true) := by have := ha.out; rw [List.take_of_length_le (by rw [hlen]; omega)] at this; exact this
        have hval : Hid (valB 0 (bl s) = n) := (valB_end hv.out (by rw [hlen]; omega)).symm
        have hF : Hid (numB (bl s) = decide (n ≤ 1000000000)) := by show numB (bl s) = _; rw [HA.out hall.out, hval.out]
        clear hn0
        go_wp2
        all_goals go_ret2
        all_goals rw [hF.out]
        all_goals exact ⟨⟨_, rfl, fun _ => hval.out.symm⟩, rfl⟩
theorem refNumber_any (s : ByteArray) (w : World) (hs : s.size ≤ 140737488351232) :
    Calls Tryz.prog 118 #[.string s] w fun e w' => (∃ x : Int, e = .returned (.tuple #[.int .i64 x, .bool (numB (bl s))])) ∧ w = w' := by
  refine (refNumber_val s w hs).mono ?_
  rintro e w' ⟨⟨x, h, _⟩, hw⟩
  exact ⟨⟨x, h⟩, hw⟩
end Go.Proofs.YtifgbioacknjpaaGreatDoor

/- What the document's primary does. -/
namespace Go.Proofs.YtifgbioacknjpaaGreatDoor
open Go.RowKit Go.Lib
set_option linter.unusedSimpArgs false
set_option linter.unusedVariables false
attribute [local go_sem ↓] Go.wp_at_zero Go.wp_at_succ

theorem B4.fx {X N : Nat} {w w' : World} {a b c e : Value} (h : B4 w N a b c e) (hf : Fx X w w') (hN : N ≠ X) : B4 w' N a b c e := by
  have hb : w'.heap[N]? = w.heap[N]? := hf.block N h.lt (fun q => hN (Option.some.inj q))
  have hc : ∀ i, w'.cell? ⟨N, i, none⟩ = w.cell? ⟨N, i, none⟩ := fun i => World.cell?_of_block (w := w) (a := ⟨N, i, none⟩) hb
  have hz : ∀ i, w'.frozen? ⟨N, i, none⟩ = w.frozen? ⟨N, i, none⟩ := fun i => World.frozen?_of_block (w := w) (a := ⟨N, i, none⟩) hb
  exact ⟨(hc 0).trans h.c0, (hc 1).trans h.c1, (hc 2).trans h.c2, (hc 3).trans h.c3, (hz 0).trans h.f0, (hz 1).trans h.f1, (hz 2).trans h.f2, (hz 3).trans h.f3⟩
theorem Fx.put4 {X N : Nat} {a b : World} (h : Fx X a b) (hN : a.heap.size ≤ N) (c0 c1 c2 c3 : Value) : Fx X a (put4 b N c0 c1 c2 c3) := (((h.setN hN c0).setN hN c1).setN hN c2).setN hN c3


/-- How many words are left to be read, as memory tells. -/
def rat (X L : Nat) (w : World) : Nat := match w.cell? ⟨X, 1, none⟩, w.cell? ⟨X, 2, none⟩ with | some (.int _ z), some (.int _ b) => if b < 0 then L - z.toNat + 1 else 0 | _, _ => 0
theorem Rr.rat {w : World} {X : Nat} {a : Option Addr} {cap : Nat} {ws : List Wd} {n : Nat} {b : Int} (h : Rr w X a cap ws n b) (L : Nat) : rat X L w = if b < 0 then L - n + 1 else 0 := by
  unfold Go.Proofs.YtifgbioacknjpaaGreatDoor.rat
  rw [h.c1, h.c2]
  simp only [Int.toNat_natCast]
end Go.Proofs.YtifgbioacknjpaaGreatDoor

/- What the document's Nodes and deep do. -/
namespace Go.Proofs.YtifgbioacknjpaaGreatDoor
open Go.RowKit
set_option linter.unusedSimpArgs false
set_option linter.unusedVariables false

def NodesC (d : Nat) : Prop := ∀ (ok : Nat → Prop) (t : T d) (v : Value) (w : World), RdT ok w d t v → cnt d t ≤ 100000 →
  Calls Tryz.prog 147 #[v] w fun e w' => e = .returned (.int .i64 (ndC d t : Int)) ∧ Below w.heap.size w w'
def DeepC (d : Nat) : Prop := ∀ (ok : Nat → Prop) (t : T d) (v : Value) (w : World), RdT ok w d t v → cnt d t ≤ 100000 →
  Calls Tryz.prog 148 #[v] w fun e w' => e = .returned (.int .i64 (dpC d t : Int)) ∧ Below w.heap.size w w'

set_option maxRecDepth 100000 in
set_option maxHeartbeats 1000000 in
theorem nodes_step (d : Nat) (IH : NodesC d) : NodesC (d + 1) := by
  intro ok t v w h hcn
  obtain ⟨k, n, s, ps, rfl⟩ := T.open t
  obtain ⟨sl, rfl, hp⟩ := rdT_mk.1 h
  obtain ⟨a, cap, rfl, hlc, hcm, hcell⟩ := hp.form
  rw [cnt_mk] at hcn
  have hpl := cnt_len ps
  rw [ndC_mk]
  have hE : Hid (∀ m : Nat, m = (ps.map (ndC d)).sum → ((min ((ps.map (ndC d)).sum + 1) 41 : Nat) : Int) = min ((m : Int) + 1) 41) := fun m hm => by subst hm; omega
  have HC : Hid (∀ (i : Nat) (hi : i < ps.length), ∃ b off c0 c1 c2 c3, a = some ⟨b, off, none⟩ ∧ b < w.heap.size ∧ RdT ok w d ps[i] (.agg #[c0, c1, c2, c3]) ∧ w.cell? ⟨b, off + i * 4, none⟩ = some c0 ∧ w.cell? ⟨b, off + i * 4 + 1, none⟩ = some c1 ∧ w.cell? ⟨b, off + i * 4 + 2, none⟩ = some c2 ∧ w.cell? ⟨b, off + i * 4 + 3, none⟩ = some c3) := hcell
  have HP : Hid (∀ (i : Nat) (hi : i < ps.length), cnt d ps[i] ≤ 100000) := fun i hi => by have := cnt_part (List.getElem_mem hi); omega
  have hpl' : ps.length ≤ 100000 := by omega
  clear hcell h hp hcn hpl
  go_enter Tryz.func147, Tryz.ntmps147
  go_wp2
  go_loopw [3, 8] (fun l i wr => ∃ (j m : Nat), j ≤ ps.length ∧ i = .int .i64 (j : Int) ∧ l = .int .i64 ((m : Int) + 1) ∧ Hid (m = ((ps.take j).map (ndC d)).sum) ∧ m ≤ 41 * j ∧ At4 wr w.heap.size (.int .i64 k) (.int .i64 n) (.string s) (.slice a ps.length cap) ∧ Below w.heap.size w wr) (fun _ i _ => ps.length - (RowKit.intOf i).toNat)
  case atStart => exact ⟨0, 0, Nat.zero_le _, rfl, rfl, rfl, by omega, At4.new _ _ _ _ _ _, (Below.refl _ _).alloc (Nat.le_refl _) _⟩
  case round =>
    obtain ⟨j, m, hj, rfl, rfl, hm, hmb, hA, hb⟩ := hrel
    obtain ⟨y0, y1, y2, y3⟩ := id hA
    by_cases hlt : j < ps.length
    · obtain ⟨b, off, c0, c1, c2, c3, rfl, hbl, hr, k0, k1, k2, k3⟩ := HC.out j hlt
      have C0 := (hb.cell (p := ⟨b, off + j * 4, none⟩) hbl).trans k0
      have C1 := (hb.cell (p := ⟨b, off + j * 4 + 1, none⟩) hbl).trans k1
      have C2 := (hb.cell (p := ⟨b, off + j * 4 + 2, none⟩) hbl).trans k2
      have C3 := (hb.cell (p := ⟨b, off + j * 4 + 3, none⟩) hbl).trans k3
      have hcall := IH ok ps[j] _ wr (RdT.below hb (Nat.le_refl _) hr) (HP.out j hlt)
      have hst := sum_take_succ (ndC d) ps j hlt
      have hle := ndC_le d ps[j]
      obtain ⟨z, hz⟩ : ∃ z, ndC d ps[j] = z := ⟨_, rfl⟩
      rw [hz] at hcall hst hle
      have hN : Hid (m + z = ((ps.take (j + 1)).map (ndC d)).sum) := by show m + z = _; rw [hst, ← hm.out]
      have i1 : (j : Int) < (ps.length : Int) := by omega
      have i2 : (0 : Int) ≤ (j : Int) := by omega
      clear k0 k1 k2 k3 hr hbl hst hz
      go_wp2_with (first
        | (go_at_call 147; refine hcall.mono ?_; rintro e w1 ⟨rfl, b1⟩))
      go_roundw
      case rel => exact ⟨j + 1, m + z, hlt, by go_num, by go_num, hN, by omega, hA.keepB b1 (World.block_lt_of_cell? wr _ y0), hb.trans (b1.mono hb.size)⟩
      case measure => simp [RowKit.intOf]; omega
    · have i1 : ¬ (j : Int) < (ps.length : Int) := by omega
      have hmm := hm.out
      rw [List.take_of_length_le (by omega)] at hmm
      have hF := hE.out m hmm
      clear hmm
      go_wp2
      all_goals go_ret
      all_goals exact ⟨ret_i64 (by omega), hb⟩
theorem nodes_any : ∀ (d : Nat), NodesC d
  | 0 => fun _ t => Empty.elim t
  | d + 1 => nodes_step d (nodes_any d)

set_option maxRecDepth 100000 in
set_option maxHeartbeats 1000000 in
theorem deep_step (d : Nat) (IH : DeepC d) : DeepC (d + 1) := by
  intro ok t v w h hcn
  obtain ⟨k, n, s, ps, rfl⟩ := T.open t
  obtain ⟨sl, rfl, hp⟩ := rdT_mk.1 h
  obtain ⟨a, cap, rfl, hlc, hcm, hcell⟩ := hp.form
  rw [cnt_mk] at hcn
  have hpl := cnt_len ps
  rw [dpC_mk]
  have HC : Hid (∀ (i : Nat) (hi : i < ps.length), ∃ b off c0 c1 c2 c3, a = some ⟨b, off, none⟩ ∧ b < w.heap.size ∧ RdT ok w d ps[i] (.agg #[c0, c1, c2, c3]) ∧ w.cell? ⟨b, off + i * 4, none⟩ = some c0 ∧ w.cell? ⟨b, off + i * 4 + 1, none⟩ = some c1 ∧ w.cell? ⟨b, off + i * 4 + 2, none⟩ = some c2 ∧ w.cell? ⟨b, off + i * 4 + 3, none⟩ = some c3) := hcell
  have HP : Hid (∀ (i : Nat) (hi : i < ps.length), cnt d ps[i] ≤ 100000) := fun i hi => by have := cnt_part (List.getElem_mem hi); omega
  have hpl' : ps.length ≤ 100000 := by omega
  clear hcell h hp hcn hpl
  go_enter Tryz.func148, Tryz.ntmps148
  go_wp2
  go_loopw [3, 8] (fun l i wr => ∃ (j m : Nat), j ≤ ps.length ∧ i = .int .i64 (j : Int) ∧ l = .int .i64 (m : Int) ∧ Hid (m = ((ps.take j).map (dpC d)).foldl max 0) ∧ m ≤ 100000 ∧ At4 wr w.heap.size (.int .i64 k) (.int .i64 n) (.string s) (.slice a ps.length cap) ∧ Below w.heap.size w wr) (fun _ i _ => ps.length - (RowKit.intOf i).toNat)
  case atStart => exact ⟨0, 0, Nat.zero_le _, rfl, rfl, rfl, by omega, At4.new _ _ _ _ _ _, (Below.refl _ _).alloc (Nat.le_refl _) _⟩
  case round =>
    obtain ⟨j, m, hj, rfl, rfl, hm, hmb, hA, hb⟩ := hrel
    obtain ⟨y0, y1, y2, y3⟩ := id hA
    by_cases hlt : j < ps.length
    · obtain ⟨b, off, c0, c1, c2, c3, rfl, hbl, hr, k0, k1, k2, k3⟩ := HC.out j hlt
      have C0 := (hb.cell (p := ⟨b, off + j * 4, none⟩) hbl).trans k0
      have C1 := (hb.cell (p := ⟨b, off + j * 4 + 1, none⟩) hbl).trans k1
      have C2 := (hb.cell (p := ⟨b, off + j * 4 + 2, none⟩) hbl).trans k2
      have C3 := (hb.cell (p := ⟨b, off + j * 4 + 3, none⟩) hbl).trans k3
      have hcall := IH ok ps[j] _ wr (RdT.below hb (Nat.le_refl _) hr) (HP.out j hlt)
      have hst := max_take_succ (dpC d) ps j hlt
      have hle := Nat.le_trans (dpC_le d ps[j]) (HP.out j hlt)
      obtain ⟨z, hz⟩ : ∃ z, dpC d ps[j] = z := ⟨_, rfl⟩
      rw [hz] at hcall hst hle
      have hN : Hid (max m z = ((ps.take (j + 1)).map (dpC d)).foldl max 0) := by show max m z = _; rw [hst, ← hm.out]
      have i1 : (j : Int) < (ps.length : Int) := by omega
      have i2 : (0 : Int) ≤ (j : Int) := by omega
      clear k0 k1 k2 k3 hr hbl hst hz
      go_wp2_with (first
        | (go_at_call 148; refine hcall.mono ?_; rintro e w1 ⟨rfl, b1⟩))
      go_roundw
      case rel => exact ⟨j + 1, max m z, hlt, by go_num, by first | rw [show (if m < z then (z : Int) else (m : Int)) = ((max m z : Nat) : Int) by split <;> omega] | (refine congrArg _ ?_; omega), hN, by omega, hA.keepB b1 (World.block_lt_of_cell? wr _ y0), hb.trans (b1.mono hb.size)⟩
      case measure => simp [RowKit.intOf]; omega
    · have i1 : ¬ (j : Int) < (ps.length : Int) := by omega
      have hmm := hm.out
      rw [List.take_of_length_le (by omega)] at hmm
      go_wp2
      go_ret
      rw [← hmm]
      exact ⟨by go_num, hb⟩
theorem deep_any : ∀ (d : Nat), DeepC d
  | 0 => fun _ t => Empty.elim t
  | d + 1 => deep_step d (deep_any d)
end Go.Proofs.YtifgbioacknjpaaGreatDoor

/- What the document's operator, sound and Formed do. -/
namespace Go.Proofs.YtifgbioacknjpaaGreatDoor
open Go.RowKit Go.Lib
set_option linter.unusedSimpArgs false
set_option linter.unusedVariables false

theorem str_is (s : ByteArray) (x : List UInt8) : (s.toList == x) = (bl s == x) := by rw [ByteArray.toList_eq]

set_option maxHeartbeats 1000000 in
theorem operator_any (s : ByteArray) (w : World) : Calls Tryz.prog 166 #[.string s] w fun e w' => e = .returned (.bool (opr s)) ∧ w = w' := by
  have hS := str_is s
  obtain ⟨l, hl⟩ : ∃ l, bl s = l := ⟨_, rfl⟩
  have ho : opr s = ops9.any (fun x => l == x) := by rw [← hl]; rfl
  rw [ho]
  simp only [hl] at hS
  clear hl ho
  obtain ⟨L, hL⟩ : ∃ L, s.toList = L := ⟨_, rfl⟩
  have q0 : (s.toList == [43]) = (l == [43]) := hS _
  have q1 : (s.toList == [45]) = (l == [45]) := hS _
  have q2 : (s.toList == [42]) = (l == [42]) := hS _
  have q3 : (s.toList == [60]) = (l == [60]) := hS _
  have q4 : (s.toList == [60, 61]) = (l == [60, 61]) := hS _
  have q5 : (s.toList == [61, 61]) = (l == [61, 61]) := hS _
  have q6 : (s.toList == [33, 61]) = (l == [33, 61]) := hS _
  have q7 : (s.toList == [38, 38]) = (l == [38, 38]) := hS _
  have q8 : (s.toList == [124, 124]) = (l == [124, 124]) := hS _
  clear hS hL
  simp only [ops9, List.any_cons, List.any_nil, Bool.or_false]
  cases r0 : (l == [43])
  case true => rw [r0] at q0; clear q1 q2 q3 q4 q5 q6 q7 q8; go_enter Tryz.func166, Tryz.ntmps166; go_wp2; go_ret; exact ⟨ret_bool (by simp), rfl⟩
  cases r1 : (l == [45])
  case true => rw [r0] at q0; rw [r1] at q1; clear q2 q3 q4 q5 q6 q7 q8; go_enter Tryz.func166, Tryz.ntmps166; go_wp2; go_ret; exact ⟨ret_bool (by simp), rfl⟩
  rw [r0] at q0; rw [r1] at q1
  cases r2 : (l == [42])
  case true => rw [r2] at q2; clear q3 q4 q5 q6 q7 q8; go_enter Tryz.func166, Tryz.ntmps166; go_wp2; go_ret; exact ⟨ret_bool (by simp), rfl⟩
  rw [r2] at q2
  cases r3 : (l == [60])
  case true => rw [r3] at q3; clear q4 q5 q6 q7 q8; go_enter Tryz.func166, Tryz.ntmps166; go_wp2; go_ret; exact ⟨ret_bool (by simp), rfl⟩
  rw [r3] at q3
  cases r4 : (l == [60, 61])
  case true => rw [r4] at q4; clear q5 q6 q7 q8; go_enter Tryz.func166, Tryz.ntmps166; go_wp2; go_ret; exact ⟨ret_bool (by simp), rfl⟩
  rw [r4] at q4
  cases r5 : (l == [61, 61])
  case true => rw [r5] at q5; clear q6 q7 q8; go_enter Tryz.func166, Tryz.ntmps166; go_wp2; go_ret; exact ⟨ret_bool (by simp), rfl⟩
  rw [r5] at q5
  cases r6 : (l == [33, 61])
  case true => rw [r6] at q6; clear q7 q8; go_enter Tryz.func166, Tryz.ntmps166; go_wp2; go_ret; exact ⟨ret_bool (by simp), rfl⟩
  rw [r6] at q6
  cases r7 : (l == [38, 38])
  case true => rw [r7] at q7; clear q8; go_enter Tryz.func166, Tryz.ntmps166; go_wp2; go_ret; exact ⟨ret_bool (by simp), rfl⟩
  rw [r7] at q7
  cases r8 : (l == [124, 124])
  case true => rw [r8] at q8; go_enter Tryz.func166, Tryz.ntmps166; go_wp2; go_ret; exact ⟨ret_bool (by simp), rfl⟩
  rw [r8] at q8
  go_enter Tryz.func166, Tryz.ntmps166
  go_wp2
  go_ret
  exact ⟨ret_bool (by simp), rfl⟩

def SoundC (d : Nat) : Prop := ∀ (ok : Nat → Prop) (t : T d) (v : Value) (w : World), Tabs w → RdT ok w d t v → shrt 1000 d t = true →
  Calls Tryz.prog 149 #[v] w fun e w' => e = .returned (.bool (sdC d t)) ∧ Below w.heap.size w w'

set_option maxRecDepth 100000 in
set_option maxHeartbeats 4000000 in
theorem sound_step (d : Nat) (IH : SoundC d) : SoundC (d + 1) := by
  intro ok t v w hT h hsh
  obtain ⟨k, n, s, ps, rfl⟩ := T.open t
  obtain ⟨sl, rfl, hp⟩ := rdT_mk.1 h
  obtain ⟨a, cap, rfl, hlc, hcm, hcell⟩ := hp.form
  rw [shrt_mk] at hsh
  simp only [Bool.and_eq_true, decide_eq_true_eq, List.all_eq_true] at hsh
  rw [sdC_mk]
  have HC : Hid (∀ (i : Nat) (hi : i < ps.length), ∃ b off c0 c1 c2 c3, a = some ⟨b, off, none⟩ ∧ b < w.heap.size ∧ RdT ok w d ps[i] (.agg #[c0, c1, c2, c3]) ∧ w.cell? ⟨b, off + i * 4, none⟩ = some c0 ∧ w.cell? ⟨b, off + i * 4 + 1, none⟩ = some c1 ∧ w.cell? ⟨b, off + i * 4 + 2, none⟩ = some c2 ∧ w.cell? ⟨b, off + i * 4 + 3, none⟩ = some c3) := hcell
  have HP : Hid (∀ (i : Nat) (hi : i < ps.length), shrt 1000 d ps[i] = true) := fun i hi => hsh.2 _ (List.getElem_mem hi)
  have hss := hsh.1
  clear hcell h hp hsh
  have hb0 := (Below.refl w.heap.size w).alloc (Nat.le_refl _) (.cells #[.int .i64 k, .int .i64 n, .string s, .slice a ps.length cap] 104)
  by_cases k1 : k = 1
  · subst k1
    rw [if_pos rfl]
    clear HC HP hT
    go_enter Tryz.func149, Tryz.ntmps149
    go_wp2
    all_goals go_ret
    all_goals (refine ⟨ret_bool ?_, hb0⟩; first | rfl | (rw [Bool.eq_iff_iff]; simp; omega) | (rw [Bool.eq_iff_iff]; simp [*]; omega) | simp [*])
  rw [if_neg k1]
  have e1 : (k == 1) = false := beq_eq_false_iff_ne.2 k1
  by_cases k2 : k = 2
  · subst k2
    rw [if_pos rfl]
    have hn := refName_any s _ (hT.below hb0 (Nat.le_refl _)) (by omega)
    obtain ⟨z, hz⟩ : ∃ z, nameS (bl s) = z := ⟨_, rfl⟩
    rw [hz] at hn ⊢
    clear HC HP hT hz k1 e1
    go_enter Tryz.func149, Tryz.ntmps149
    go_wp2_with (first
      | (go_at_call 79; refine hn.mono ?_; rintro e w1 ⟨rfl, b1⟩))
    go_ret
    exact ⟨rfl, hb0.trans (b1.mono hb0.size)⟩
  rw [if_neg k2]
  have e2 : (k == 2) = false := beq_eq_false_iff_ne.2 k2
  by_cases k3 : k = 3
  · subst k3
    rw [if_pos (.inl rfl)]
    clear k1 k2 e1 e2 hb0
    have hE : ∃ V, ps.all (sdC d) = V := ⟨_, rfl⟩
    obtain ⟨V, hV⟩ := hE
    have HV : Hid (ps.all (sdC d) = V) := hV
    rw [hV]
    clear hV
    go_enter Tryz.func149, Tryz.ntmps149
    go_wp2
    go_loopw [37] (fun i wr => ∃ (j : Nat), j ≤ ps.length ∧ i = .int .i64 (j : Int) ∧ Hid ((ps.take j).all (sdC d) = true) ∧ At4 wr w.heap.size (.int .i64 3) (.int .i64 n) (.string s) (.slice a ps.length cap) ∧ Below w.heap.size w wr) (fun i _ => ps.length - (RowKit.intOf i).toNat)
    case atStart => exact ⟨0, Nat.zero_le _, rfl, rfl, At4.new _ _ _ _ _ _, (Below.refl _ _).alloc (Nat.le_refl _) _⟩
    case round =>
      obtain ⟨j, hj, rfl, hal, hA, hb⟩ := hrel
      obtain ⟨y0, y1, y2, y3⟩ := id hA
      by_cases hlt : j < ps.length
      · obtain ⟨b, off, c0, c1, c2, c3, rfl, hbl, hr, k0, k1, k2, k3⟩ := HC.out j hlt
        have C0 := (hb.cell (p := ⟨b, off + j * 4, none⟩) hbl).trans k0
        have C1 := (hb.cell (p := ⟨b, off + j * 4 + 1, none⟩) hbl).trans k1
        have C2 := (hb.cell (p := ⟨b, off + j * 4 + 2, none⟩) hbl).trans k2
        have C3 := (hb.cell (p := ⟨b, off + j * 4 + 3, none⟩) hbl).trans k3
        have hcall := IH ok ps[j] _ wr (hT.below hb (Nat.le_refl _)) (RdT.below hb (Nat.le_refl _) hr) (HP.out j hlt)
        have hst := all_take_succ (sdC d) ps j hlt hal.out
        have hno := all_not (sdC d) ps j hlt
        obtain ⟨z, hz⟩ : ∃ z, sdC d ps[j] = z := ⟨_, rfl⟩
        rw [hz] at hcall hst hno
        have i1 : (j : Int) < (ps.length : Int) := by omega
        have i2 : (0 : Int) ≤ (j : Int) := by omega
        clear k0 k1 k2 k3 hr hbl hz hT
        cases z with
        | true =>
          have hN : Hid ((ps.take (j + 1)).all (sdC d) = true) := hst rfl
          clear hst hno
          go_wp2_with (first
            | (go_at_call 149; refine hcall.mono ?_; rintro e w1 ⟨rfl, b1⟩))
          go_roundw
          case rel => exact ⟨j + 1, hlt, by go_num, hN, hA.keepB b1 (World.block_lt_of_cell? wr _ y0), hb.trans (b1.mono hb.size)⟩
          case measure => simp [RowKit.intOf]; omega
        | false =>
          have hF : V = false := by rw [← HV.out]; exact hno rfl
          subst hF
          clear hst hno
          go_wp2_with (first
            | (go_at_call 149; refine hcall.mono ?_; rintro e w1 ⟨rfl, b1⟩))
          go_ret
          exact ⟨ret_bool (by simp), hb.trans (b1.mono hb.size)⟩
      · have i1 : ¬ (j : Int) < (ps.length : Int) := by omega
        have hF : V = true := by rw [← HV.out]; have := hal.out; rw [List.take_of_length_le (by omega)] at this; exact this
        subst hF
        clear hT
        go_wp2
        go_ret
        exact ⟨ret_bool (by simp), hb⟩
  have e3 : (k == 3) = false := beq_eq_false_iff_ne.2 k3
  by_cases k4 : k = 4
  · subst k4
    rw [if_pos (.inr rfl)]
    clear k1 k2 e1 e2 k3 e3 hb0
    have hE : ∃ V, ps.all (sdC d) = V := ⟨_, rfl⟩
    obtain ⟨V, hV⟩ := hE
    have HV : Hid (ps.all (sdC d) = V) := hV
    rw [hV]
    clear hV
    go_enter Tryz.func149, Tryz.ntmps149
    go_wp2
    go_loopw [37] (fun i wr => ∃ (j : Nat), j ≤ ps.length ∧ i = .int .i64 (j : Int) ∧ Hid ((ps.take j).all (sdC d) = true) ∧ At4 wr w.heap.size (.int .i64 4) (.int .i64 n) (.string s) (.slice a ps.length cap) ∧ Below w.heap.size w wr) (fun i _ => ps.length - (RowKit.intOf i).toNat)
    case atStart => exact ⟨0, Nat.zero_le _, rfl, rfl, At4.new _ _ _ _ _ _, (Below.refl _ _).alloc (Nat.le_refl _) _⟩
    case round =>
      obtain ⟨j, hj, rfl, hal, hA, hb⟩ := hrel
      obtain ⟨y0, y1, y2, y3⟩ := id hA
      by_cases hlt : j < ps.length
      · obtain ⟨b, off, c0, c1, c2, c3, rfl, hbl, hr, k0, k1, k2, k3⟩ := HC.out j hlt
        have C0 := (hb.cell (p := ⟨b, off + j * 4, none⟩) hbl).trans k0
        have C1 := (hb.cell (p := ⟨b, off + j * 4 + 1, none⟩) hbl).trans k1
        have C2 := (hb.cell (p := ⟨b, off + j * 4 + 2, none⟩) hbl).trans k2
        have C3 := (hb.cell (p := ⟨b, off + j * 4 + 3, none⟩) hbl).trans k3
        have hcall := IH ok ps[j] _ wr (hT.below hb (Nat.le_refl _)) (RdT.below hb (Nat.le_refl _) hr) (HP.out j hlt)
        have hst := all_take_succ (sdC d) ps j hlt hal.out
        have hno := all_not (sdC d) ps j hlt
        obtain ⟨z, hz⟩ : ∃ z, sdC d ps[j] = z := ⟨_, rfl⟩
        rw [hz] at hcall hst hno
        have i1 : (j : Int) < (ps.length : Int) := by omega
        have i2 : (0 : Int) ≤ (j : Int) := by omega
        clear k0 k1 k2 k3 hr hbl hz hT
        cases z with
        | true =>
          have hN : Hid ((ps.take (j + 1)).all (sdC d) = true) := hst rfl
          clear hst hno
          go_wp2_with (first
            | (go_at_call 149; refine hcall.mono ?_; rintro e w1 ⟨rfl, b1⟩))
          go_roundw
          case rel => exact ⟨j + 1, hlt, by go_num, hN, hA.keepB b1 (World.block_lt_of_cell? wr _ y0), hb.trans (b1.mono hb.size)⟩
          case measure => simp [RowKit.intOf]; omega
        | false =>
          have hF : V = false := by rw [← HV.out]; exact hno rfl
          subst hF
          clear hst hno
          go_wp2_with (first
            | (go_at_call 149; refine hcall.mono ?_; rintro e w1 ⟨rfl, b1⟩))
          go_ret
          exact ⟨ret_bool (by simp), hb.trans (b1.mono hb.size)⟩
      · have i1 : ¬ (j : Int) < (ps.length : Int) := by omega
        have hF : V = true := by rw [← HV.out]; have := hal.out; rw [List.take_of_length_le (by omega)] at this; exact this
        subst hF
        clear hT
        go_wp2
        go_ret
        exact ⟨ret_bool (by simp), hb⟩
  rw [if_neg (by omega)]
  have e4 : (k == 4) = false := beq_eq_false_iff_ne.2 k4
  by_cases k5 : k = 5
  · subst k5
    rw [if_pos rfl]
    have hop := fun w1 => operator_any s w1
    clear k1 k2 e1 e2 k3 e3 k4 e4
    cases ho : opr s with
    | false =>
      simp only [ho] at hop
      clear HC HP hT
      go_enter Tryz.func149, Tryz.ntmps149
      go_wp2_with (first
        | (go_at_call 166; refine (hop _).mono ?_; rintro e w1 ⟨rfl, rfl⟩))
      go_ret
      exact ⟨ret_bool (by simp), hb0⟩
    | true =>
      simp only [ho] at hop
      rw [Bool.true_and]
      clear ho hb0
      have hE : ∃ V, ps.all (sdC d) = V := ⟨_, rfl⟩
      obtain ⟨V, hV⟩ := hE
      have HV : Hid (ps.all (sdC d) = V) := hV
      rw [hV]
      clear hV
      go_enter Tryz.func149, Tryz.ntmps149
      go_wp2_with (first | (go_at_call 166; refine (hop _).mono ?_; rintro e w1 ⟨rfl, rfl⟩))
      go_loopw [37] (fun i wr => ∃ (j : Nat), j ≤ ps.length ∧ i = .int .i64 (j : Int) ∧ Hid ((ps.take j).all (sdC d) = true) ∧ At4 wr w.heap.size (.int .i64 5) (.int .i64 n) (.string s) (.slice a ps.length cap) ∧ Below w.heap.size w wr) (fun i _ => ps.length - (RowKit.intOf i).toNat)
      case atStart => exact ⟨0, Nat.zero_le _, rfl, rfl, At4.new _ _ _ _ _ _, (Below.refl _ _).alloc (Nat.le_refl _) _⟩
      case round =>
        obtain ⟨j, hj, rfl, hal, hA, hb⟩ := hrel
        obtain ⟨y0, y1, y2, y3⟩ := id hA
        by_cases hlt : j < ps.length
        · obtain ⟨b, off, c0, c1, c2, c3, rfl, hbl, hr, k0, k1, k2, k3⟩ := HC.out j hlt
          have C0 := (hb.cell (p := ⟨b, off + j * 4, none⟩) hbl).trans k0
          have C1 := (hb.cell (p := ⟨b, off + j * 4 + 1, none⟩) hbl).trans k1
          have C2 := (hb.cell (p := ⟨b, off + j * 4 + 2, none⟩) hbl).trans k2
          have C3 := (hb.cell (p := ⟨b, off + j * 4 + 3, none⟩) hbl).trans k3
          have hcall := IH ok ps[j] _ wr (hT.below hb (Nat.le_refl _)) (RdT.below hb (Nat.le_refl _) hr) (HP.out j hlt)
          have hst := all_take_succ (sdC d) ps j hlt hal.out
          have hno := all_not (sdC d) ps j hlt
          obtain ⟨z, hz⟩ : ∃ z, sdC d ps[j] = z := ⟨_, rfl⟩
          rw [hz] at hcall hst hno
          have i1 : (j : Int) < (ps.length : Int) := by omega
          have i2 : (0 : Int) ≤ (j : Int) := by omega
          clear k0 k1 k2 k3 hr hbl hz hT
          cases z with
          | true =>
            have hN : Hid ((ps.take (j + 1)).all (sdC d) = true) := hst rfl
            clear hst hno
            go_wp2_with (first
              | (go_at_call 149; refine hcall.mono ?_; rintro e w1 ⟨rfl, b1⟩))
            go_roundw
            case rel => exact ⟨j + 1, hlt, by go_num, hN, hA.keepB b1 (World.block_lt_of_cell? wr _ y0), hb.trans (b1.mono hb.size)⟩
            case measure => simp [RowKit.intOf]; omega
          | false =>
            have hF : V = false := by rw [← HV.out]; exact hno rfl
            subst hF
            clear hst hno
            go_wp2_with (first
              | (go_at_call 149; refine hcall.mono ?_; rintro e w1 ⟨rfl, b1⟩))
            go_ret
            exact ⟨ret_bool (by simp), hb.trans (b1.mono hb.size)⟩
        · have i1 : ¬ (j : Int) < (ps.length : Int) := by omega
          have hF : V = true := by rw [← HV.out]; have := hal.out; rw [List.take_of_length_le (by omega)] at this; exact this
          subst hF
          clear hT
          go_wp2
          go_ret
          exact ⟨ret_bool (by simp), hb⟩
  rw [if_neg k5]
  have e5 : (k == 5) = false := beq_eq_false_iff_ne.2 k5
  clear HC HP hT
  go_enter Tryz.func149, Tryz.ntmps149
  go_wp2
  go_ret
  exact ⟨rfl, hb0⟩
theorem sound_any : ∀ (d : Nat), SoundC d
  | 0 => fun _ t => Empty.elim t
  | d + 1 => sound_step d (sound_any d)

set_option maxHeartbeats 1000000 in
theorem formed_any {ok : Nat → Prop} {d : Nat} {t : T d} {v : Value} {w : World} (hT : Tabs w) (h : RdT ok w d t v) (hc : cnt d t ≤ 100000) (hsh : shrt 1000 d t = true) :
    Calls Tryz.prog 124 #[v] w fun e w' => e = .returned (.bool (fmC d t)) ∧ Below w.heap.size w w' := by
  match d, t, h, hc, hsh with
  | 0, t, h, _, _ => exact Empty.elim t
  | d + 1, t, h, hc, hsh =>
    obtain ⟨k, n, s, ps, rfl⟩ := T.open t
    have h0 := h
    obtain ⟨sl, rfl, hp⟩ := rdT_mk.1 h
    have hb0 := (Below.refl w.heap.size w).alloc (Nat.le_refl _) (.cells #[.int .i64 k, .int .i64 n, .string s, sl] 104)
    have hA := At4.new w (.int .i64 k) (.int .i64 n) (.string s) sl 104
    have h1 := nodes_any (d + 1) ok (mkT k n s ps) _ _ (RdT.below hb0 (Nat.le_refl _) h0) hc
    have h2 := fun w1 (b1 : Below w.heap.size w w1) => deep_any (d + 1) ok (mkT k n s ps) _ w1 (RdT.below b1 (Nat.le_refl _) h0) hc
    have h3 := fun w1 (b1 : Below w.heap.size w w1) => sound_any (d + 1) ok (mkT k n s ps) _ w1 (hT.below b1 (Nat.le_refl _)) (RdT.below b1 (Nat.le_refl _) h0) hsh
    unfold fmC
    obtain ⟨x, hx⟩ : ∃ x, ndC (d + 1) (mkT k n s ps) = x := ⟨_, rfl⟩
    obtain ⟨y, hy⟩ : ∃ y, dpC (d + 1) (mkT k n s ps) = y := ⟨_, rfl⟩
    obtain ⟨z, hz⟩ : ∃ z, sdC (d + 1) (mkT k n s ps) = z := ⟨_, rfl⟩
    rw [hx] at h1 ⊢
    simp only [hy] at h2 ⊢
    simp only [hz] at h3 ⊢
    clear hx hy hz h0 hp hT hsh hc
    by_cases c1 : x ≤ 40
    · have f1 : (x : Int) ≤ 40 := by omega
      by_cases c2 : y ≤ 12
      · have f2 : (y : Int) ≤ 12 := by omega
        go_enter Tryz.func124, Tryz.ntmps124
        go_wp2_with (first
          | (go_at_call 147; refine h1.mono ?_; rintro e w1 ⟨rfl, b1⟩; have bb1 := hb0.trans (b1.mono hb0.size); have hA1 := hA.keepB b1 (by simp); obtain ⟨y0, y1, y2, y3⟩ := id hA1; have h2' := h2 w1 bb1; clear h1 h2)
          | (go_at_call 148; refine h2'.mono ?_; rintro e w2 ⟨rfl, b2⟩; have bb2 := bb1.trans (b2.mono bb1.size); obtain ⟨z0, z1, z2, z3⟩ := hA1.keepB b2 (World.block_lt_of_cell? w1 _ y0); have h3' := h3 w2 bb2; clear h2' h3 y0 y1 y2 y3)
          | (go_at_call 149; refine h3'.mono ?_; rintro e w3 ⟨rfl, b3⟩; have bb3 := bb2.trans (b3.mono bb2.size); clear h3' z0 z1 z2 z3))
        go_ret
        exact ⟨ret_bool (by simp [c1, c2]), bb3⟩
      · have f2 : ¬ (y : Int) ≤ 12 := by omega
        go_enter Tryz.func124, Tryz.ntmps124
        go_wp2_with (first
          | (go_at_call 147; refine h1.mono ?_; rintro e w1 ⟨rfl, b1⟩; have bb1 := hb0.trans (b1.mono hb0.size); obtain ⟨y0, y1, y2, y3⟩ := hA.keepB b1 (by simp); have h2' := h2 w1 bb1; clear h1 h2)
          | (go_at_call 148; refine h2'.mono ?_; rintro e w2 ⟨rfl, b2⟩; have bb2 := bb1.trans (b2.mono bb1.size); clear h2'))
        go_ret
        exact ⟨ret_bool (by simp [c1, c2]), bb2⟩
    · have f1 : ¬ (x : Int) ≤ 40 := by omega
      go_enter Tryz.func124, Tryz.ntmps124
      go_wp2_with (first
        | (go_at_call 147; refine h1.mono ?_; rintro e w1 ⟨rfl, b1⟩; have bb1 := hb0.trans (b1.mono hb0.size); clear h1))
      go_ret
      exact ⟨ret_bool (by simp [c1]), bb1⟩
end Go.Proofs.YtifgbioacknjpaaGreatDoor
