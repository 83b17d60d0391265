import Derived.Test.YtccmmkhcacglhaaGreatDoorRows
import Derived.Test.YtccmmkhcacglhaaGreatDoorWkc04
import Derived.Test.YtccmmkhcacglhaaGreatDoorWkc01
import Derived.Test.YtccmmkhcacglhaaGreatDoorWkc02
import Derived.BigQuiet
import Derived.Deep.QuietTactic
import Derived.BigRegion
import Derived.Test.YtccmmkhcacglhaaGreatDoorWkc05

/- What the document's level and Reserved do. -/
namespace Go.Proofs.YtccmmkhcacglhaaGreatDoor
open Go.RowKit Go.Lib
set_option linter.unusedSimpArgs false
set_option linter.unusedVariables false
attribute [local go_sem ↓] Go.wp_at_zero Go.wp_at_succ

set_option maxRecDepth 100000 in
set_option maxHeartbeats 2000000 in
theorem rLevel_any (s : ByteArray) (w : World) : Calls Tryz.prog 184 #[.string s] w fun e w' => e = .returned (.int .i64 (lv (bl s) : Int)) ∧ w = w' := by
  have hS : ∀ x, (s.toList == x) = (bl s == x) := fun x => by rw [ByteArray.toList_eq]
  obtain ⟨l, hl⟩ : ∃ l, bl s = l := ⟨_, rfl⟩
  rw [hl]
  simp only [hl] at hS
  clear hl
  have q0 : (s.toList == [124, 124]) = (l == [124, 124]) := hS _
  have q1 : (s.toList == [38, 38]) = (l == [38, 38]) := hS _
  have q2 : (s.toList == [60]) = (l == [60]) := hS _
  have q3 : (s.toList == [60, 61]) = (l == [60, 61]) := hS _
  have q4 : (s.toList == [61, 61]) = (l == [61, 61]) := hS _
  have q5 : (s.toList == [33, 61]) = (l == [33, 61]) := hS _
  have q6 : (s.toList == [43]) = (l == [43]) := hS _
  have q7 : (s.toList == [45]) = (l == [45]) := hS _
  have q8 : (s.toList == [42]) = (l == [42]) := hS _
  clear hS
  cases r0 : (l == [124, 124])
  case true => rw [r0] at q0; clear q1 q2 q3 q4 q5 q6 q7 q8; go_enter Tryz.func184, Tryz.ntmps184; go_wp2; go_ret; exact ⟨by rw [eq_of_beq r0]; rfl, rfl⟩
  rw [r0] at q0
  cases r1 : (l == [38, 38])
  case true => rw [r1] at q1; clear q2 q3 q4 q5 q6 q7 q8; go_enter Tryz.func184, Tryz.ntmps184; go_wp2; go_ret; exact ⟨by rw [eq_of_beq r1]; rfl, rfl⟩
  rw [r1] at q1
  cases r2 : (l == [60])
  case true => rw [r2] at q2; clear q3 q4 q5 q6 q7 q8; go_enter Tryz.func184, Tryz.ntmps184; go_wp2; go_ret; exact ⟨by rw [eq_of_beq r2]; rfl, rfl⟩
  rw [r2] at q2
  cases r3 : (l == [60, 61])
  case true => rw [r3] at q3; clear q4 q5 q6 q7 q8; go_enter Tryz.func184, Tryz.ntmps184; go_wp2; go_ret; exact ⟨by rw [eq_of_beq r3]; rfl, rfl⟩
  rw [r3] at q3
  cases r4 : (l == [61, 61])
  case true => rw [r4] at q4; clear q5 q6 q7 q8; go_enter Tryz.func184, Tryz.ntmps184; go_wp2; go_ret; exact ⟨by rw [eq_of_beq r4]; rfl, rfl⟩
  rw [r4] at q4
  cases r5 : (l == [33, 61])
  case true => rw [r5] at q5; clear q6 q7 q8; go_enter Tryz.func184, Tryz.ntmps184; go_wp2; go_ret; exact ⟨by rw [eq_of_beq r5]; rfl, rfl⟩
  rw [r5] at q5
  cases r6 : (l == [43])
  case true => rw [r6] at q6; clear q7 q8; go_enter Tryz.func184, Tryz.ntmps184; go_wp2; go_ret; exact ⟨by rw [eq_of_beq r6]; rfl, rfl⟩
  rw [r6] at q6
  cases r7 : (l == [45])
  case true => rw [r7] at q7; clear q8; go_enter Tryz.func184, Tryz.ntmps184; go_wp2; go_ret; exact ⟨by rw [eq_of_beq r7]; rfl, rfl⟩
  rw [r7] at q7
  cases r8 : (l == [42])
  case true => rw [r8] at q8; go_enter Tryz.func184, Tryz.ntmps184; go_wp2; go_ret; exact ⟨by rw [eq_of_beq r8]; rfl, rfl⟩
  rw [r8] at q8
  go_enter Tryz.func184, Tryz.ntmps184
  go_wp2
  go_ret
  exact ⟨by have e : lv l = 0 := by simp [lv, beq_eq_false_iff_ne.1 r0, beq_eq_false_iff_ne.1 r1, beq_eq_false_iff_ne.1 r2, beq_eq_false_iff_ne.1 r3, beq_eq_false_iff_ne.1 r4, beq_eq_false_iff_ne.1 r5, beq_eq_false_iff_ne.1 r6, beq_eq_false_iff_ne.1 r7, beq_eq_false_iff_ne.1 r8]
            rw [e]; rfl, rfl⟩
set_option maxRecDepth 100000 in
set_option maxHeartbeats 2000000 in
theorem rReserved_any (s : ByteArray) (w : World) : Calls Tryz.prog 103 #[.string s] w fun e w' => e = .returned (.bool (rsvB (bl s))) ∧ w = w' := by
  have hS : ∀ x, (s.toList == x) = (bl s == x) := fun x => by rw [ByteArray.toList_eq]
  obtain ⟨l, hl⟩ : ∃ l, bl s = l := ⟨_, rfl⟩
  rw [hl]
  simp only [hl] at hS
  clear hl
  have q0 : (s.toList == [99, 104, 97, 114, 116]) = (l == [99, 104, 97, 114, 116]) := hS _
  have q1 : (s.toList == [118, 97, 114]) = (l == [118, 97, 114]) := hS _
  have q2 : (s.toList == [115, 116, 97, 116, 101]) = (l == [115, 116, 97, 116, 101]) := hS _
  have q3 : (s.toList == [97, 108, 108]) = (l == [97, 108, 108]) := hS _
  have q4 : (s.toList == [101, 110, 100]) = (l == [101, 110, 100]) := hS _
  have q5 : (s.toList == [100, 111]) = (l == [100, 111]) := hS _
  have q6 : (s.toList == [117, 110, 100, 111]) = (l == [117, 110, 100, 111]) := hS _
  have q7 : (s.toList == [97, 116]) = (l == [97, 116]) := hS _
  have q8 : (s.toList == [114, 101, 116, 114, 105, 101, 115]) = (l == [114, 101, 116, 114, 105, 101, 115]) := hS _
  have q9 : (s.toList == [111, 110]) = (l == [111, 110]) := hS _
  have q10 : (s.toList == [105, 102]) = (l == [105, 102]) := hS _
  have q11 : (s.toList == [103, 111]) = (l == [103, 111]) := hS _
  have q12 : (s.toList == [115, 101, 116]) = (l == [115, 101, 116]) := hS _
  clear hS
  cases r0 : (l == [99, 104, 97, 114, 116])
  case true => rw [r0] at q0; clear q1 q2 q3 q4 q5 q6 q7 q8 q9 q10 q11 q12; go_enter Tryz.func103, Tryz.ntmps103; go_wp2; go_ret; exact ⟨by rw [eq_of_beq r0]; rfl, rfl⟩
  rw [r0] at q0
  cases r1 : (l == [118, 97, 114])
  case true => rw [r1] at q1; clear q2 q3 q4 q5 q6 q7 q8 q9 q10 q11 q12; go_enter Tryz.func103, Tryz.ntmps103; go_wp2; go_ret; exact ⟨by rw [eq_of_beq r1]; rfl, rfl⟩
  rw [r1] at q1
  cases r2 : (l == [115, 116, 97, 116, 101])
  case true => rw [r2] at q2; clear q3 q4 q5 q6 q7 q8 q9 q10 q11 q12; go_enter Tryz.func103, Tryz.ntmps103; go_wp2; go_ret; exact ⟨by rw [eq_of_beq r2]; rfl, rfl⟩
  rw [r2] at q2
  cases r3 : (l == [97, 108, 108])
  case true => rw [r3] at q3; clear q4 q5 q6 q7 q8 q9 q10 q11 q12; go_enter Tryz.func103, Tryz.ntmps103; go_wp2; go_ret; exact ⟨by rw [eq_of_beq r3]; rfl, rfl⟩
  rw [r3] at q3
  cases r4 : (l == [101, 110, 100])
  case true => rw [r4] at q4; clear q5 q6 q7 q8 q9 q10 q11 q12; go_enter Tryz.func103, Tryz.ntmps103; go_wp2; go_ret; exact ⟨by rw [eq_of_beq r4]; rfl, rfl⟩
  rw [r4] at q4
  cases r5 : (l == [100, 111])
  case true => rw [r5] at q5; clear q6 q7 q8 q9 q10 q11 q12; go_enter Tryz.func103, Tryz.ntmps103; go_wp2; go_ret; exact ⟨by rw [eq_of_beq r5]; rfl, rfl⟩
  rw [r5] at q5
  cases r6 : (l == [117, 110, 100, 111])
  case true => rw [r6] at q6; clear q7 q8 q9 q10 q11 q12; go_enter Tryz.func103, Tryz.ntmps103; go_wp2; go_ret; exact ⟨by rw [eq_of_beq r6]; rfl, rfl⟩
  rw [r6] at q6
  cases r7 : (l == [97, 116])
  case true => rw [r7] at q7; clear q8 q9 q10 q11 q12; go_enter Tryz.func103, Tryz.ntmps103; go_wp2; go_ret; exact ⟨by rw [eq_of_beq r7]; rfl, rfl⟩
  rw [r7] at q7
  cases r8 : (l == [114, 101, 116, 114, 105, 101, 115])
  case true => rw [r8] at q8; clear q9 q10 q11 q12; go_enter Tryz.func103, Tryz.ntmps103; go_wp2; go_ret; exact ⟨by rw [eq_of_beq r8]; rfl, rfl⟩
  rw [r8] at q8
  cases r9 : (l == [111, 110])
  case true => rw [r9] at q9; clear q10 q11 q12; go_enter Tryz.func103, Tryz.ntmps103; go_wp2; go_ret; exact ⟨by rw [eq_of_beq r9]; rfl, rfl⟩
  rw [r9] at q9
  cases r10 : (l == [105, 102])
  case true => rw [r10] at q10; clear q11 q12; go_enter Tryz.func103, Tryz.ntmps103; go_wp2; go_ret; exact ⟨by rw [eq_of_beq r10]; rfl, rfl⟩
  rw [r10] at q10
  cases r11 : (l == [103, 111])
  case true => rw [r11] at q11; clear q12; go_enter Tryz.func103, Tryz.ntmps103; go_wp2; go_ret; exact ⟨by rw [eq_of_beq r11]; rfl, rfl⟩
  rw [r11] at q11
  cases r12 : (l == [115, 101, 116])
  case true => rw [r12] at q12; go_enter Tryz.func103, Tryz.ntmps103; go_wp2; go_ret; exact ⟨by rw [eq_of_beq r12]; rfl, rfl⟩
  rw [r12] at q12
  go_enter Tryz.func103, Tryz.ntmps103
  go_wp2
  go_ret
  exact ⟨by have e : rsvB l = false := by simp [rsvB, rsv13, beq_eq_false_iff_ne.1 r0, beq_eq_false_iff_ne.1 r1, beq_eq_false_iff_ne.1 r2, beq_eq_false_iff_ne.1 r3, beq_eq_false_iff_ne.1 r4, beq_eq_false_iff_ne.1 r5, beq_eq_false_iff_ne.1 r6, beq_eq_false_iff_ne.1 r7, beq_eq_false_iff_ne.1 r8, beq_eq_false_iff_ne.1 r9, beq_eq_false_iff_ne.1 r10, beq_eq_false_iff_ne.1 r11, beq_eq_false_iff_ne.1 r12]
            rw [e]; rfl, rfl⟩
end Go.Proofs.YtccmmkhcacglhaaGreatDoor

/- What Clean makes of a tree: memory. -/
namespace Go.Proofs.YtccmmkhcacglhaaGreatDoor
open Go.RowKit
set_option linter.unusedSimpArgs false
set_option linter.unusedVariables false

/-- The slice v is the call's own, from block base on, and holds the trees l; their own memory lies apart. -/
def OwnN (w : World) (base : Nat) (v : Value) {d : Nat} (l : List (T d)) : Prop :=
  ∃ qs : List Q4, w.ownsRow base 132 4 v l.length (celsQ qs) ∧ qs.length = l.length ∧ ∀ (i : Nat) (h : i < l.length) (h' : i < qs.length), RdT (fun b => base ≤ b ∧ v.ownBlock ≠ some b) w d l[i] (.agg #[(qs[i]).1, (qs[i]).2.1, (qs[i]).2.2.1, (qs[i]).2.2.2])
/-- It stays where the blocks from base on that there are stay. -/
theorem OwnN.keep {w w' : World} {base : Nat} {v : Value} {d : Nat} {l : List (T d)} (h : OwnN w base v l) (hk : ∀ b, base ≤ b → b < w.heap.size → w'.heap[b]? = w.heap[b]?) : OwnN w' base v l := by
  obtain ⟨qs, ho, hl, hr⟩ := h
  refine ⟨qs, ownsRow_keep ho (fun g hg => ?_), hl, fun i h h' => RdT.keep (fun b hb hlt => ⟨hb, hk b hb.1 hlt⟩) (hr i h h')⟩
  obtain ⟨a, b⟩ := ownsRow_lt ho g hg
  exact hk g a b
theorem OwnN.below {w w' : World} {base : Nat} {v : Value} {d : Nat} {l : List (T d)} (h : OwnN w base v l) (hb : Below w.heap.size w w') : OwnN w' base v l := h.keep (fun b _ hlt => hb.block b hlt)
theorem OwnN.set {w : World} {base : Nat} {v : Value} {d : Nat} {l : List (T d)} (h : OwnN w base v l) {X i : Nat} (hX : X < base) (u : Value) : OwnN (w.setCell ⟨X, i, none⟩ u) base v l :=
  h.keep (fun b hb _ => Below.heap_setCell _ _ _ _ (fun e => by have : b = X := e; omega))
theorem OwnN.snoc {w w' : World} {base g cap lo n : Nat} {v : Value} {d : Nat} {l : List (T d)} {p : T d} {c0 c1 c2 c3 : Value} {qs : List Q4}
    (hn : l.length = n) (ho : w.ownsRow base 132 4 v n (celsQ qs)) (hl : qs.length = l.length) (hr : ∀ (i : Nat) (h : i < l.length) (h' : i < qs.length), RdT (fun b => base ≤ b ∧ v.ownBlock ≠ some b) w d l[i] (.agg #[(qs[i]).1, (qs[i]).2.1, (qs[i]).2.2.1, (qs[i]).2.2.2]))
    (ho' : w'.ownsRow base 132 4 (.slice (some ⟨g, 0, none⟩) (n + 1) cap) (n + 1) (celsQ qs ++ [c0, c1, c2, c3])) (hg : w.grownBy w' v.ownBlock) (hat : v.ownBlock = some g ∨ g = w.heap.size)
    (hp : RdT (fun b => lo ≤ b) w d p (.agg #[c0, c1, c2, c3])) (hlo : base ≤ lo) (hv : ∀ x, v.ownBlock = some x → x < lo) : OwnN w' base (.slice (some ⟨g, 0, none⟩) (n + 1) cap) (l ++ [p]) := by
  subst hn
  have key : ∀ b, base ≤ b ∧ v.ownBlock ≠ some b → b < w.heap.size → (base ≤ b ∧ (Value.slice (some ⟨g, 0, none⟩) (l.length + 1) cap).ownBlock ≠ some b) ∧ w'.heap[b]? = w.heap[b]? := fun b hb hlt => by
    refine ⟨⟨hb.1, ?_⟩, hg.block b hlt (fun e => hb.2 e.symm)⟩
    simp only [Value.ownBlock, ne_eq, Option.some.injEq]
    rintro rfl
    rcases hat with h | h
    · exact hb.2 h
    · omega
  refine ⟨qs ++ [(c0, c1, c2, c3)], ?_, by simp [hl], fun i h h' => ?_⟩
  · rw [celsQ_snoc, List.length_append]
    exact ho'
  · rcases Nat.lt_or_ge i l.length with hi | hi
    · rw [List.getElem_append_left hi, List.getElem_append_left (by omega)]
      exact RdT.keep key (hr i hi (by omega))
    · have : i = l.length := by simp at h; omega
      subst this
      have e1 : (l ++ [p])[l.length] = p := by simp
      have e2 : (qs ++ [(c0, c1, c2, c3)])[l.length]'h' = (c0, c1, c2, c3) := by simp [← hl]
      rw [e1, e2]
      exact RdT.keep (fun b hb hlt => key b ⟨by omega, fun e => by have := hv b e; omega⟩ hlt) hp
theorem OwnN.form {w : World} {base : Nat} {v : Value} {d : Nat} {l : List (T d)} (h : OwnN w base v l) : ∃ a cap, v = .slice a l.length cap := by
  obtain ⟨qs, ho, _⟩ := h
  rcases ho.2 with ⟨h1, h2⟩ | ⟨g, cap, cur, h1, _⟩
  · exact ⟨none, 0, by rw [h1, h2]⟩
  · exact ⟨_, _, h1⟩
/-- It reads as the trees. -/
theorem OwnN.rd {w : World} {base : Nat} {v : Value} {d : Nat} {l : List (T d)} (h : OwnN w base v l) : RdP (fun b => base ≤ b) w (RdT (fun b => base ≤ b) w d) l v := by
  obtain ⟨qs, ho, hl, hr⟩ := h
  have hc := fun g => World.ownsRow.cells ho (g := g)
  rcases ho.2 with ⟨rfl, hn⟩ | ⟨g, cap, cur, rfl, hb, hg, hnc, hcm, hcs, htake⟩
  · have hx : l = [] := List.eq_nil_of_length_eq_zero hn
    subst hx
    exact ⟨none, 0, rfl, by simp, by simp [maxLen], by simp, fun x hx => by cases hx⟩
  · refine ⟨some ⟨g, 0, none⟩, cap, rfl, hnc, hcm, by simp, ?_⟩
    intro x hx i hi
    obtain rfl := Option.some.inj hx
    obtain ⟨h0, h1, h2, h3⟩ := celsQ_at qs i (by omega)
    exact ⟨hb, _, _, _, _, RdT.keep (fun b hb _ => ⟨hb.1, rfl⟩) (hr i hi (by omega)), hc g rfl _ _ h0, hc g rfl _ _ h1, hc g rfl _ _ h2, hc g rfl _ _ h3⟩
theorem OwnN.base {w : World} {base lo : Nat} {d : Nat} {l : List (T d)} {v : Value} (h : RdP (fun b => base ≤ b) w (RdT (fun b => base ≤ b) w d) l v) (hlo : lo ≤ base) : RdP (fun b => lo ≤ b) w (RdT (fun b => lo ≤ b) w d) l v :=
  h.keep (fun x _ u hu => RdT.keep (fun b hb _ => ⟨by omega, rfl⟩) hu) (fun b hb _ => ⟨by omega, rfl⟩)
theorem rdP_none (ok : Nat → Prop) (w : World) {d : Nat} : RdP ok w (RdT ok w d) [] (.slice none 0 0) := ⟨none, 0, rfl, by simp, by simp [maxLen], fun _ => rfl, fun x hx => by cases hx⟩
theorem rdT_none (ok : Nat → Prop) (w : World) {d : Nat} : RdT ok w (d + 1) none0 (.agg #[.int .i64 0, .int .i64 0, .string ⟨#[]⟩, .slice none 0 0]) := ⟨_, rfl, rdP_none ok w⟩
end Go.Proofs.YtccmmkhcacglhaaGreatDoor

/- The document's reader in memory; what its is and fail do. -/
namespace Go.Proofs.YtccmmkhcacglhaaGreatDoor
open Go.RowKit Go.Lib
set_option linter.unusedSimpArgs false
set_option linter.unusedVariables false
attribute [local go_sem ↓] Go.wp_at_zero Go.wp_at_succ

set_option maxRecDepth 100000 in
set_option maxHeartbeats 4000000 in
theorem is_any {w : World} {X : Nat} {a : Option Addr} {cap : Nat} {ws : List Wd} {n : Nat} {b : Int} (h : Rr w X a cap ws n b) (t : List UInt8) (hl : ws.length ≤ 3000) (hcap : ws.length ≤ cap) :
    Calls Tryz.prog 215 #[.pointer (some ⟨X, 0, none⟩), .string ⟨t.toArray⟩] w fun e w' => e = .returned (.bool (isT (ws.map tkW) t n b)) ∧ ∃ m, w' = w.drewN m := by
  obtain ⟨c0, c1, c2, f1, f2, hL⟩ := h
  have i2 : (0 : Int) ≤ (n : Int) := by omega
  by_cases hb : b < 0
  · by_cases hn : n < ws.length
    · have i1 : (n : Int) < (ws.length : Int) := by omega
      obtain ⟨g, off, rfl, hgX, d0, d1, d2, d3⟩ := hL n hn
      have hget : (ws.map tkW)[n]? = some (tkW ws[n]) := by rw [List.getElem?_map, List.getElem?_eq_getElem hn]; rfl
      have e : isT (ws.map tkW) t n b = decide (byt (ws[n]).2.1 = t) := by unfold isT; rw [hget, decide_eq_true hb]; rfl
      rw [e]
      have hd1 : w.cell? ⟨g, off + n * 4 + 1, none⟩ = some (.string ⟨(byt (ws[n]).2.1).toArray⟩) := d1
      obtain ⟨bs, hbs⟩ : ∃ bs, byt (ws[n]).2.1 = bs := ⟨_, rfl⟩
      rw [hbs] at hd1 ⊢
      clear d1 hL hget hbs e
      by_cases hq : bs = t
      · have i3 : (bs == t) = true := by rw [hq]; simp
        rw [decide_eq_true hq]
        clear hq
        go_enter Tryz.func215, Tryz.ntmps215
        go_wp2
        go_quiet (fail)
        go_wp2
        go_ret
        exact ⟨rfl, _, rfl⟩
      · have i3 : (bs == t) = false := beq_eq_false_iff_ne.2 hq
        rw [decide_eq_false hq]
        clear hq
        go_enter Tryz.func215, Tryz.ntmps215
        go_wp2
        go_quiet (fail)
        go_wp2
        go_ret
        exact ⟨rfl, _, rfl⟩
    · have i1 : decide ((n : Int) < (ws.length : Int)) = false := decide_eq_false (by omega)
      have e : isT (ws.map tkW) t n b = false := by
        unfold isT
        rw [List.getElem?_eq_none (by rw [List.length_map]; omega)]; simp
      rw [e]
      clear hL e
      go_enter Tryz.func215, Tryz.ntmps215
      go_wp2
      go_quiet (fail)
      go_wp2
      go_ret
      exact ⟨rfl, _, rfl⟩
  · have i1 : decide (b < 0) = false := decide_eq_false hb
    have e : isT (ws.map tkW) t n b = false := by unfold isT; rw [i1]; rfl
    rw [e]
    clear hL e hb
    go_enter Tryz.func215, Tryz.ntmps215
    go_wp2
    go_quiet (fail)
    go_wp2
    go_ret
    exact ⟨rfl, _, rfl⟩
end Go.Proofs.YtccmmkhcacglhaaGreatDoor

/- What the document's fail does; trees with their depth, in memory. -/
namespace Go.Proofs.YtccmmkhcacglhaaGreatDoor
open Go.RowKit Go.Lib
set_option linter.unusedSimpArgs false
set_option linter.unusedVariables false
attribute [local go_sem ↓] Go.wp_at_zero Go.wp_at_succ

def RdX (ok : Nat → Prop) (w : World) (x : Sx) (v : Value) : Prop := RdT ok w x.1 x.2 v
theorem rdX_no (ok : Nat → Prop) (w : World) : RdX ok w noX (.agg #[.int .i64 0, .int .i64 0, .string ⟨#[]⟩, .slice none 0 0]) := rdT_none ok w
/-- It stays, where the blocks that it may lie in stay. -/
theorem RdX.keep {ok ok' : Nat → Prop} {w w' : World} {x : Sx} {v : Value} (h : RdX ok w x v) (hk : ∀ b, ok b → b < w.heap.size → ok' b ∧ w'.heap[b]? = w.heap[b]?) : RdX ok' w' x v := RdT.keep hk h
theorem rdT_lift {ok : Nat → Prop} {w : World} : ∀ (d : Nat) (t : T d) (v : Value), RdT ok w d t v → RdT ok w (d + 1) (lift d t) v
  | 0, t, _, _ => Empty.elim t
  | d + 1, t, v, h => by
    obtain ⟨k, n, s, ps, rfl⟩ := T.open t
    obtain ⟨sl, rfl, hp⟩ := rdT_mk.1 h
    rw [lift_mk]
    refine rdT_mk.2 ⟨sl, rfl, ?_⟩
    obtain ⟨a, cap, rfl, h1, h2, h3, h4⟩ := hp
    refine ⟨a, cap, by rw [List.length_map], by rw [List.length_map]; exact h1, h2, fun e => by rw [h3 e]; rfl, fun x hx i hi => ?_⟩
    rw [List.length_map] at hi
    obtain ⟨o, c0, c1, c2, c3, r, k0, k1, k2, k3⟩ := h4 x hx i hi
    exact ⟨o, c0, c1, c2, c3, by rw [List.getElem_map]; exact rdT_lift d _ _ r, k0, k1, k2, k3⟩
theorem rdT_addl {ok : Nat → Prop} {w : World} (d : Nat) (t : T d) (v : Value) (h : RdT ok w d t v) : ∀ k, RdT ok w (d + k) (addl d t k) v
  | 0 => h
  | k + 1 => rdT_lift _ _ _ (rdT_addl d t v h k)
theorem rdT_turn {ok : Nat → Prop} {w : World} {a b : Nat} (e : a = b) (t : T a) (v : Value) (h : RdT ok w a t v) : RdT ok w b (turn e t) v := by subst e; exact h
/-- Its four cells. -/
theorem RdX.form {ok : Nat → Prop} {w : World} {x : Sx} {v : Value} (h : RdX ok w x v) : ∃ k n s a m c, v = .agg #[.int .i64 k, .int .i64 n, .string s, .slice a m c] := by
  obtain ⟨d, t⟩ := x
  match d, t, h with
  | 0, t, _ => exact Empty.elim t
  | d + 1, t, h =>
    obtain ⟨k, n, s, ps, rfl⟩ := T.open t
    obtain ⟨sl, rfl, a, cap, rfl, _⟩ := rdT_mk.1 h
    exact ⟨k, n, s, a, _, cap, rfl⟩
theorem At4.blkR {w w' : World} {N : Nat} {a b c e : Value} (h : At4 w N a b c e) (hb : w'.heap[N]? = w.heap[N]?) : At4 w' N a b c e :=
  ⟨(World.cell?_of_block (w := w) (a := ⟨N, 0, none⟩) hb).trans h.1, (World.cell?_of_block (w := w) (a := ⟨N, 1, none⟩) hb).trans h.2.1, (World.cell?_of_block (w := w) (a := ⟨N, 2, none⟩) hb).trans h.2.2.1, (World.cell?_of_block (w := w) (a := ⟨N, 3, none⟩) hb).trans h.2.2.2⟩
/-- A node put together of one part. -/
theorem rdX_mk1 {ok : Nat → Prop} {N : Nat} {w : World} {x : Sx} {k : Int} {c0 c1 c2 c3 : Value} (h : RdX ok w x (.agg #[c0, c1, c2, c3])) (hN : ok N) (k0 : w.cell? ⟨N, 0, none⟩ = some c0) (k1 : w.cell? ⟨N, 1, none⟩ = some c1) (k2 : w.cell? ⟨N, 2, none⟩ = some c2) (k3 : w.cell? ⟨N, 3, none⟩ = some c3) :
    RdX ok w (mk1 k x) (.agg #[.int .i64 k, .int .i64 0, .string ⟨#[]⟩, .slice (some ⟨N, 0, none⟩) 1 1]) := by
  refine rdT_mk.2 ⟨_, rfl, some ⟨N, 0, none⟩, 1, rfl, by simp, by simp [maxLen], by simp, fun y hy i hi => ?_⟩
  obtain rfl := Option.some.inj hy
  have : i = 0 := by simp at hi; omega
  subst this
  exact ⟨hN, c0, c1, c2, c3, h, k0, k1, k2, k3⟩
theorem rdX_mk2 {ok : Nat → Prop} {N : Nat} {w : World} {x y : Sx} {s : ByteArray} {c0 c1 c2 c3 e0 e1 e2 e3 : Value} (h : RdX ok w x (.agg #[c0, c1, c2, c3])) (h' : RdX ok w y (.agg #[e0, e1, e2, e3])) (hN : ok N)
    (k0 : w.cell? ⟨N, 0, none⟩ = some c0) (k1 : w.cell? ⟨N, 1, none⟩ = some c1) (k2 : w.cell? ⟨N, 2, none⟩ = some c2) (k3 : w.cell? ⟨N, 3, none⟩ = some c3)
    (k4 : w.cell? ⟨N, 4, none⟩ = some e0) (k5 : w.cell? ⟨N, 5, none⟩ = some e1) (k6 : w.cell? ⟨N, 6, none⟩ = some e2) (k7 : w.cell? ⟨N, 7, none⟩ = some e3) :
    RdX ok w (mk2 s x y) (.agg #[.int .i64 5, .int .i64 0, .string s, .slice (some ⟨N, 0, none⟩) 2 2]) := by
  refine rdT_mk.2 ⟨_, rfl, some ⟨N, 0, none⟩, 2, rfl, by simp, by simp [maxLen], by simp, fun z hz i hi => ?_⟩
  obtain rfl := Option.some.inj hz
  have hi2 : i = 0 ∨ i = 1 := by simp at hi; omega
  rcases hi2 with rfl | rfl
  · exact ⟨hN, c0, c1, c2, c3, rdT_addl _ _ _ h _, k0, k1, k2, k3⟩
  · exact ⟨hN, e0, e1, e2, e3, rdT_turn _ _ _ (rdT_addl _ _ _ h' _), k4, k5, k6, k7⟩
theorem rdX_lit (ok : Nat → Prop) (w : World) (n : Int) : RdX ok w (mk0 1 n ⟨#[]⟩) (.agg #[.int .i64 1, .int .i64 n, .string ⟨#[]⟩, .slice none 0 0]) := ⟨_, rfl, rdP_none _ w⟩
theorem rdX_ref (ok : Nat → Prop) (w : World) (s : ByteArray) : RdX ok w (mk0 2 0 s) (.agg #[.int .i64 2, .int .i64 0, .string s, .slice none 0 0]) := ⟨_, rfl, rdP_none _ w⟩
set_option maxRecDepth 100000 in
set_option maxHeartbeats 4000000 in
theorem fail_any {w : World} {X : Nat} {a : Option Addr} {cap : Nat} {ws : List Wd} {n : Nat} {b : Int} (h : Rr w X a cap ws n b) :
    Calls Tryz.prog 214 #[.pointer (some ⟨X, 0, none⟩)] w fun e w' => e = .returned (.agg #[.int .i64 0, .int .i64 0, .string ⟨#[]⟩, .slice none 0 0]) ∧ Rr w' X a cap ws n (if b < 0 then (n : Int) else b) ∧ Fx X w w' := by
  have hX := h.lt
  have hal : ∀ wx : World, Below wx.heap.size wx (wx.alloc (.cells #[.int .i64 0, .int .i64 0, .string ⟨#[]⟩, .slice none 0 0] 132)) := fun wx => (Below.refl _ _).alloc (Nat.le_refl _) _
  have hr0 := h.on (hal w)
  obtain ⟨c0, c1, c2, f1, f2, hL⟩ := id hr0
  clear hL
  by_cases hb : b < 0
  · rw [if_pos hb]
    have hS := h.set2 (n : Int)
    go_enter Tryz.func214, Tryz.ntmps214
    go_wp2
    exact bodyPost_ret (v := .agg #[.int .i64 0, .int .i64 0, .string ⟨#[]⟩, .slice none 0 0]) (by simp [results, Tryz.results214, go_sem]) rfl ⟨rfl, hS.on (hal _), ((Fx.refl X w).setX _).alloc _⟩
  · rw [if_neg hb]
    go_enter Tryz.func214, Tryz.ntmps214
    go_wp2
    exact bodyPost_ret (v := .agg #[.int .i64 0, .int .i64 0, .string ⟨#[]⟩, .slice none 0 0]) (by simp [results, Tryz.results214, go_sem]) rfl ⟨rfl, hr0, (Fx.refl X w).alloc _⟩
end Go.Proofs.YtccmmkhcacglhaaGreatDoor

/- What the document's Letter, digit, inside, next, run and Name do. -/
namespace Go.Proofs.YtccmmkhcacglhaaGreatDoor
open Go.RowKit Go.Lib
set_option linter.unusedSimpArgs false
set_option linter.unusedVariables false

theorem refLetter_any (r : Int) (w : World) : Calls Tryz.prog 117 #[.int .i32 r] w fun e w' => e = .returned (.bool (letter r)) ∧ w = w' := by
  rw [letter_eq]
  go_enter Tryz.func117, Tryz.ntmps117
  go_wp2
  all_goals go_ret
  all_goals (refine ⟨ret_bool ?_, rfl⟩; first | rfl | (rw [Bool.eq_iff_iff]; simp; omega) | (rw [Bool.eq_iff_iff]; simp [*]; omega))
theorem refDigit_any (r : Int) (w : World) : Calls Tryz.prog 118 #[.int .i32 r] w fun e w' => e = .returned (.bool (dgt r)) ∧ w = w' := by
  rw [dgt_eq]
  go_enter Tryz.func118, Tryz.ntmps118
  go_wp2
  all_goals go_ret
  all_goals (refine ⟨ret_bool ?_, rfl⟩; first | rfl | (rw [Bool.eq_iff_iff]; simp; omega) | (rw [Bool.eq_iff_iff]; simp [*]; omega))
theorem refInside_any (r : Int) (w : World) : Calls Tryz.prog 150 #[.int .i32 r] w fun e w' => e = .returned (.bool (insd r)) ∧ w = w' := by
  have h1 := refLetter_any r w
  have h2 := refDigit_any r w
  have h3 : insd r = (letter r || dgt r || r == 95) := rfl
  rw [h3]
  cases ha : letter r <;> rw [ha] at h1
  · cases hb : dgt r <;> rw [hb] at h2
    · go_enter Tryz.func150, Tryz.ntmps150
      go_wp2_with (first
        | (go_at_call 117; refine h1.mono ?_; rintro e w' ⟨rfl, rfl⟩)
        | (go_at_call 118; refine h2.mono ?_; rintro e w' ⟨rfl, rfl⟩))
      go_ret
      exact ⟨ret_bool (by simp), rfl⟩
    · go_enter Tryz.func150, Tryz.ntmps150
      go_wp2_with (first
        | (go_at_call 117; refine h1.mono ?_; rintro e w' ⟨rfl, rfl⟩)
        | (go_at_call 118; refine h2.mono ?_; rintro e w' ⟨rfl, rfl⟩))
      go_ret
      exact ⟨ret_bool (by simp), rfl⟩
  · go_enter Tryz.func150, Tryz.ntmps150
    go_wp2_with (first
      | (go_at_call 117; refine h1.mono ?_; rintro e w' ⟨rfl, rfl⟩)
      | (go_at_call 118; refine h2.mono ?_; rintro e w' ⟨rfl, rfl⟩))
    go_ret
    exact ⟨ret_bool (by simp), rfl⟩

theorem decodeGo_nil {s : ByteArray} (h : bl s = []) : Lib.decodeGo s = (65533, 0) := by
  unfold Lib.decodeGo
  rw [if_pos]
  rw [← bl_length, h]; rfl
theorem decodeGo_eq {s : ByteArray} (h : bl s ≠ []) : Lib.decodeGo s = decodeL (bl s) := by
  unfold Lib.decodeGo
  rw [if_neg, ← decodeL_drop s 0, List.drop_zero]
  intro e
  exact h (List.eq_nil_of_length_eq_zero (by rw [bl_length]; exact e))

theorem refNext_any (s : ByteArray) (w : World) (hT : Tabs w) :
    Calls Tryz.prog 76 #[.string s] w fun e w' => e = .returned (tup2 (nx (bl s)).1 (nx (bl s)).2) ∧ Below w.heap.size w w' := by
  have h1 := decode_any s w hT
  obtain ⟨a, ha⟩ : ∃ a, (Lib.decodeGo s).1 = a := ⟨_, rfl⟩
  obtain ⟨b, hb⟩ : ∃ b, (Lib.decodeGo s).2 = b := ⟨_, rfl⟩
  rw [ha, hb] at h1
  have hn : nx (bl s) = if a = 65533 ∧ b ≤ 1 then (-1, b) else ((a : Int), b) := by
    by_cases hl : bl s = []
    · have := decodeGo_nil hl
      rw [this] at ha hb
      simp only at ha hb
      subst ha; subst hb
      rw [hl]; rfl
    · unfold nx
      rw [if_neg hl, ← decodeGo_eq hl, ha, hb]
  by_cases h1' : a = 65533
  · by_cases h2' : b ≤ 1
    · rw [hn, if_pos ⟨h1', h2'⟩]
      have e1 : ((a : Int) == 65533) = true := by simp; omega
      have e2 : (b : Int) ≤ 1 := by omega
      clear hn ha hb h1'
      go_enter Tryz.func76, Tryz.ntmps76
      go_wp2_with (first
        | (go_at_call 115; refine h1.mono ?_; rintro e w1 ⟨rfl, b1⟩))
      go_ret2
      exact ⟨rfl, b1⟩
    · rw [hn, if_neg (fun h => h2' h.2)]
      have e1 : ((a : Int) == 65533) = true := by simp; omega
      have e2 : ¬ (b : Int) ≤ 1 := by omega
      clear hn ha hb h1'
      go_enter Tryz.func76, Tryz.ntmps76
      go_wp2_with (first
        | (go_at_call 115; refine h1.mono ?_; rintro e w1 ⟨rfl, b1⟩))
      go_ret2
      exact ⟨rfl, b1⟩
  · rw [hn, if_neg (fun h => h1' h.1)]
    have e1 : ((a : Int) == 65533) = false := by simp; omega
    clear hn ha hb
    go_enter Tryz.func76, Tryz.ntmps76
    go_wp2_with (first
      | (go_at_call 115; refine h1.mono ?_; rintro e w1 ⟨rfl, b1⟩))
    go_ret2
    exact ⟨rfl, b1⟩
end Go.Proofs.YtccmmkhcacglhaaGreatDoor

/- What the document's run and Name do. -/
namespace Go.Proofs.YtccmmkhcacglhaaGreatDoor
open Go.RowKit Go.Lib
set_option linter.unusedSimpArgs false
set_option linter.unusedVariables false

set_option maxHeartbeats 400000 in
theorem refRun_any (s : ByteArray) (w : World) (hT : Tabs w) (hs : s.size ≤ 140737488351232) :
    Calls Tryz.prog 116 #[.string s] w fun e w' => e = .returned (.tuple #[.int .i64 (spb (bl s) : Int), .int .i64 (spn (runes (bl s)) : Int)]) ∧ Below w.heap.size w w' := by
  go_enter Tryz.func116, Tryz.ntmps116
  go_wp2
  go_loopw [4, 5] (fun a b wr => ∃ (m k : Nat), a = .int .i64 (k : Int) ∧ b = .int .i64 (m : Int) ∧ Hid (Adv (bl s) m k) ∧ Below w.heap.size w wr) (fun a _ _ => s.size - (RowKit.intOf a).toNat)
  case atStart => exact ⟨0, 0, rfl, rfl, Adv.zero _, Below.refl _ _⟩
  case round =>
    obtain ⟨m, k, rfl, rfl, ha, hb⟩ := hrel
    have hle := ha.out.le
    have hfw := ha.out.few
    rw [bl_length] at hle
    have hTr := hT.below hb (Nat.le_refl _)
    by_cases hk : k < s.size
    · have hk' : (k : Int) < (s.size : Int) := by omega
      have hk0 : (0 : Int) ≤ (k : Int) := by omega
      have h20 := refNext_any (s.extract k s.size) _ hTr
      rw [bl_from] at h20
      have hne := drop_ne (l := bl s) (by rw [bl_length]; exact hk)
      have hps := nx_pos hne
      have hnl := nx_le hne
      rw [List.length_drop, bl_length] at hnl
      obtain ⟨r, hr⟩ : ∃ r, (nx ((bl s).drop k)).1 = r := ⟨_, rfl⟩
      obtain ⟨q, hq⟩ : ∃ q, (nx ((bl s).drop k)).2 = q := ⟨_, rfl⟩
      rw [hr, hq] at h20
      rw [hq] at hps hnl
      have hw : IntKind.i64.wrap ((k : Int) + (q : Int)) = (k : Int) + q := by rw [IntKind.wrap_i64]; omega
      have hw1 : IntKind.i64.wrap ((m : Int) + 1) = (m : Int) + 1 := by rw [IntKind.wrap_i64]; omega
      have h26 := fun w1 => refInside_any r w1
      cases hi : insd r with
      | true =>
        rw [hi] at h26
        have hA : Hid (Adv (bl s) (m + 1) (k + q)) := by have := ha.out.step (by rw [bl_length]; exact hk) (by rw [hr]; exact hi); rw [hq] at this; exact this
        clear hr hq hne hi hT hTr
        go_wp2_with (first
          | (go_at_call 76; refine h20.mono ?_; rintro e w1 ⟨rfl, b1⟩)
          | (go_at_call 150; refine (h26 _).mono ?_; rintro e w' ⟨rfl, rfl⟩))
        go_roundw
        case rel => exact ⟨m + 1, k + q, by go_num, by go_num, hA, hb.trans (b1.mono hb.size)⟩
        case measure => simp [RowKit.intOf]; omega
      | false =>
        rw [hi] at h26
        have hE : Hid (spn (runes (bl s)) = m) := ha.out.stop (.inr (by rw [hr]; exact hi))
        have hZ : Hid (spb (bl s) = k) := by show spb (bl s) = k; unfold spb; rw [hE.out]; exact ha.out.size
        clear hr hq hne hi hT hTr
        go_wp2_with (first
          | (go_at_call 76; refine h20.mono ?_; rintro e w1 ⟨rfl, b1⟩)
          | (go_at_call 150; refine (h26 _).mono ?_; rintro e w' ⟨rfl, rfl⟩))
        go_ret2
        rw [hE.out, hZ.out]
        exact ⟨rfl, hb.trans (b1.mono hb.size)⟩
    · have hk' : ¬ (k : Int) < (s.size : Int) := by omega
      have hE : Hid (spn (runes (bl s)) = m) := ha.out.stop (.inl (by rw [bl_length]; omega))
      have hZ : Hid (spb (bl s) = k) := by show spb (bl s) = k; unfold spb; rw [hE.out]; exact ha.out.size
      clear hT hTr
      go_wp2
      go_ret2
      rw [hE.out, hZ.out]
      exact ⟨rfl, hb⟩

set_option maxHeartbeats 400000 in
theorem refName_any (s : ByteArray) (w : World) (hT : Tabs w) (hs : s.size ≤ 140737488351232) :
    Calls Tryz.prog 102 #[.string s] w fun e w' => e = .returned (.bool (nameS (bl s))) ∧ Below w.heap.size w w' := by
  have h1 := refNext_any s w hT
  have h2 := fun w1 (hb : Below w.heap.size w w1) => refRun_any s w1 (hT.below hb (Nat.le_refl _)) hs
  have h3 : nameS (bl s) = (letter (nx (bl s)).1 && ((spb (bl s) : Int) == (s.size : Int)) && decide (spn (runes (bl s)) ≤ 24)) := rfl
  rw [h3]
  have h12 := fun w1 => refLetter_any (nx (bl s)).1 w1
  obtain ⟨r, hr⟩ : ∃ r, (nx (bl s)).1 = r := ⟨_, rfl⟩
  obtain ⟨q, hq⟩ : ∃ q, (nx (bl s)).2 = q := ⟨_, rfl⟩
  obtain ⟨k, hk⟩ : ∃ k, spb (bl s) = k := ⟨_, rfl⟩
  obtain ⟨m, hm⟩ : ∃ m, spn (runes (bl s)) = m := ⟨_, rfl⟩
  rw [hr] at h1 h12 ⊢
  rw [hq] at h1
  simp only [hk, hm] at h2 ⊢
  obtain ⟨a, ha⟩ : ∃ a, letter r = a := ⟨_, rfl⟩
  rw [ha] at h12 ⊢
  have e3 : decide (m ≤ 24) = decide ((m : Int) ≤ 24) := by rw [Bool.eq_iff_iff]; simp; omega
  rw [e3]
  clear h3 hr hq hk hm ha e3
  cases a
  · go_enter Tryz.func102, Tryz.ntmps102
    go_wp2_with (first
      | (go_at_call 76; refine h1.mono ?_; rintro e w1 ⟨rfl, b1⟩; have h2' := h2 w1 b1; clear h1 h2)
      | (go_at_call 116; refine h2'.mono ?_; rintro e w2 ⟨rfl, b2⟩; have b3 := b1.trans (b2.mono b1.size); clear h2' b1 b2)
      | (go_at_call 117; refine (h12 _).mono ?_; rintro e w' ⟨rfl, rfl⟩; clear h12))
    go_ret
    exact ⟨ret_bool (by simp), b3⟩
  · cases hkl : ((k : Int) == (s.size : Int))
    · go_enter Tryz.func102, Tryz.ntmps102
      go_wp2_with (first
        | (go_at_call 76; refine h1.mono ?_; rintro e w1 ⟨rfl, b1⟩; have h2' := h2 w1 b1; clear h1 h2)
        | (go_at_call 116; refine h2'.mono ?_; rintro e w2 ⟨rfl, b2⟩; have b3 := b1.trans (b2.mono b1.size); clear h2' b1 b2)
        | (go_at_call 117; refine (h12 _).mono ?_; rintro e w' ⟨rfl, rfl⟩; clear h12))
      go_ret
      exact ⟨ret_bool (by simp), b3⟩
    · go_enter Tryz.func102, Tryz.ntmps102
      go_wp2_with (first
        | (go_at_call 76; refine h1.mono ?_; rintro e w1 ⟨rfl, b1⟩; have h2' := h2 w1 b1; clear h1 h2)
        | (go_at_call 116; refine h2'.mono ?_; rintro e w2 ⟨rfl, b2⟩; have b3 := b1.trans (b2.mono b1.size); clear h2' b1 b2)
        | (go_at_call 117; refine (h12 _).mono ?_; rintro e w' ⟨rfl, rfl⟩; clear h12))
      all_goals go_ret
      all_goals exact ⟨ret_bool (by simp), b3⟩
end Go.Proofs.YtccmmkhcacglhaaGreatDoor

/- What the document's sign does. -/
namespace Go.Proofs.YtccmmkhcacglhaaGreatDoor
open Go.RowKit Go.Lib
set_option linter.unusedSimpArgs false
set_option linter.unusedVariables false

set_option maxHeartbeats 2000000 in
theorem refSign_one (s : ByteArray) (w : World) (c : UInt8) (h0 : 0 < s.size) (h1 : ¬ 1 < s.size) (hs0 : s[0] = c) (G : Nat) (hg : one (c.toNat : Int) = G) :
    Calls Tryz.prog 119 #[.string s] w fun e w' => e = .returned (.int .i64 (G : Int)) ∧ w = w' := by
  have hz : (0 : Int) < (s.size : Int) := by omega
  have hz1 : ¬ (1 : Int) < (s.size : Int) := by omega
  by_cases f0 : c.toNat = 123
  · have g0 : ((c.toNat : Int) == 123) = true := by simp; omega
    have hG : 1 = G := by rw [← hg]; exact (one_yes (by omega)).symm
    clear f0 hg
    subst hG
    go_enter Tryz.func119, Tryz.ntmps119
    go_wp2
    go_ret
    exact ⟨rfl, rfl⟩
  have g0 : ((c.toNat : Int) == 123) = false := beq_eq_false_iff_ne.2 (by omega)
  by_cases f1 : c.toNat = 125
  · have g1 : ((c.toNat : Int) == 125) = true := by simp; omega
    have hG : 1 = G := by rw [← hg]; exact (one_yes (by omega)).symm
    clear f1 hg f0
    subst hG
    go_enter Tryz.func119, Tryz.ntmps119
    go_wp2
    go_ret
    exact ⟨rfl, rfl⟩
  have g1 : ((c.toNat : Int) == 125) = false := beq_eq_false_iff_ne.2 (by omega)
  by_cases f2 : c.toNat = 40
  · have g2 : ((c.toNat : Int) == 40) = true := by simp; omega
    have hG : 1 = G := by rw [← hg]; exact (one_yes (by omega)).symm
    clear f2 hg f0 f1
    subst hG
    go_enter Tryz.func119, Tryz.ntmps119
    go_wp2
    go_ret
    exact ⟨rfl, rfl⟩
  have g2 : ((c.toNat : Int) == 40) = false := beq_eq_false_iff_ne.2 (by omega)
  by_cases f3 : c.toNat = 41
  · have g3 : ((c.toNat : Int) == 41) = true := by simp; omega
    have hG : 1 = G := by rw [← hg]; exact (one_yes (by omega)).symm
    clear f3 hg f0 f1 f2
    subst hG
    go_enter Tryz.func119, Tryz.ntmps119
    go_wp2
    go_ret
    exact ⟨rfl, rfl⟩
  have g3 : ((c.toNat : Int) == 41) = false := beq_eq_false_iff_ne.2 (by omega)
  by_cases f4 : c.toNat = 61
  · have g4 : ((c.toNat : Int) == 61) = true := by simp; omega
    have hG : 1 = G := by rw [← hg]; exact (one_yes (by omega)).symm
    clear f4 hg f0 f1 f2 f3
    subst hG
    go_enter Tryz.func119, Tryz.ntmps119
    go_wp2
    go_ret
    exact ⟨rfl, rfl⟩
  have g4 : ((c.toNat : Int) == 61) = false := beq_eq_false_iff_ne.2 (by omega)
  by_cases f5 : c.toNat = 33
  · have g5 : ((c.toNat : Int) == 33) = true := by simp; omega
    have hG : 1 = G := by rw [← hg]; exact (one_yes (by omega)).symm
    clear f5 hg f0 f1 f2 f3 f4
    subst hG
    go_enter Tryz.func119, Tryz.ntmps119
    go_wp2
    go_ret
    exact ⟨rfl, rfl⟩
  have g5 : ((c.toNat : Int) == 33) = false := beq_eq_false_iff_ne.2 (by omega)
  by_cases f6 : c.toNat = 60
  · have g6 : ((c.toNat : Int) == 60) = true := by simp; omega
    have hG : 1 = G := by rw [← hg]; exact (one_yes (by omega)).symm
    clear f6 hg f0 f1 f2 f3 f4 f5
    subst hG
    go_enter Tryz.func119, Tryz.ntmps119
    go_wp2
    go_ret
    exact ⟨rfl, rfl⟩
  have g6 : ((c.toNat : Int) == 60) = false := beq_eq_false_iff_ne.2 (by omega)
  by_cases f7 : c.toNat = 43
  · have g7 : ((c.toNat : Int) == 43) = true := by simp; omega
    have hG : 1 = G := by rw [← hg]; exact (one_yes (by omega)).symm
    clear f7 hg f0 f1 f2 f3 f4 f5 f6
    subst hG
    go_enter Tryz.func119, Tryz.ntmps119
    go_wp2
    go_ret
    exact ⟨rfl, rfl⟩
  have g7 : ((c.toNat : Int) == 43) = false := beq_eq_false_iff_ne.2 (by omega)
  by_cases f8 : c.toNat = 45
  · have g8 : ((c.toNat : Int) == 45) = true := by simp; omega
    have hG : 1 = G := by rw [← hg]; exact (one_yes (by omega)).symm
    clear f8 hg f0 f1 f2 f3 f4 f5 f6 f7
    subst hG
    go_enter Tryz.func119, Tryz.ntmps119
    go_wp2
    go_ret
    exact ⟨rfl, rfl⟩
  have g8 : ((c.toNat : Int) == 45) = false := beq_eq_false_iff_ne.2 (by omega)
  by_cases f9 : c.toNat = 42
  · have g9 : ((c.toNat : Int) == 42) = true := by simp; omega
    have hG : 1 = G := by rw [← hg]; exact (one_yes (by omega)).symm
    clear f9 hg f0 f1 f2 f3 f4 f5 f6 f7 f8
    subst hG
    go_enter Tryz.func119, Tryz.ntmps119
    go_wp2
    go_ret
    exact ⟨rfl, rfl⟩
  have g9 : ((c.toNat : Int) == 42) = false := beq_eq_false_iff_ne.2 (by omega)
  have hG : 0 = G := by rw [← hg]; exact (one_no (by omega)).symm
  clear hg f0 f1 f2 f3 f4 f5 f6 f7 f8 f9
  subst hG
  go_enter Tryz.func119, Tryz.ntmps119
  go_wp2
  go_ret
  exact ⟨rfl, rfl⟩

set_option maxHeartbeats 2000000 in
theorem refSign_two (s : ByteArray) (w : World) (c : UInt8) (h1 : 1 < s.size) (hs0 : s[0] = c) (G : Nat) (hg : one (c.toNat : Int) = G)
    (p0 : ((s.extract 0 2).toList == [61, 61]) = false)
    (p1 : ((s.extract 0 2).toList == [33, 61]) = false)
    (p2 : ((s.extract 0 2).toList == [60, 61]) = false)
    (p3 : ((s.extract 0 2).toList == [38, 38]) = false)
    (p4 : ((s.extract 0 2).toList == [124, 124]) = false)
    : Calls Tryz.prog 119 #[.string s] w fun e w' => e = .returned (.int .i64 (G : Int)) ∧ w = w' := by
  have hz : (0 : Int) < (s.size : Int) := by omega
  have hz1 : (1 : Int) < (s.size : Int) := by omega
  have hz2 : (2 : Int) ≤ (s.size : Int) := by omega
  by_cases f0 : c.toNat = 123
  · have g0 : ((c.toNat : Int) == 123) = true := by simp; omega
    have hG : 1 = G := by rw [← hg]; exact (one_yes (by omega)).symm
    clear f0 hg
    subst hG
    go_enter Tryz.func119, Tryz.ntmps119
    go_wp2
    go_ret
    exact ⟨rfl, rfl⟩
  have g0 : ((c.toNat : Int) == 123) = false := beq_eq_false_iff_ne.2 (by omega)
  by_cases f1 : c.toNat = 125
  · have g1 : ((c.toNat : Int) == 125) = true := by simp; omega
    have hG : 1 = G := by rw [← hg]; exact (one_yes (by omega)).symm
    clear f1 hg f0
    subst hG
    go_enter Tryz.func119, Tryz.ntmps119
    go_wp2
    go_ret
    exact ⟨rfl, rfl⟩
  have g1 : ((c.toNat : Int) == 125) = false := beq_eq_false_iff_ne.2 (by omega)
  by_cases f2 : c.toNat = 40
  · have g2 : ((c.toNat : Int) == 40) = true := by simp; omega
    have hG : 1 = G := by rw [← hg]; exact (one_yes (by omega)).symm
    clear f2 hg f0 f1
    subst hG
    go_enter Tryz.func119, Tryz.ntmps119
    go_wp2
    go_ret
    exact ⟨rfl, rfl⟩
  have g2 : ((c.toNat : Int) == 40) = false := beq_eq_false_iff_ne.2 (by omega)
  by_cases f3 : c.toNat = 41
  · have g3 : ((c.toNat : Int) == 41) = true := by simp; omega
    have hG : 1 = G := by rw [← hg]; exact (one_yes (by omega)).symm
    clear f3 hg f0 f1 f2
    subst hG
    go_enter Tryz.func119, Tryz.ntmps119
    go_wp2
    go_ret
    exact ⟨rfl, rfl⟩
  have g3 : ((c.toNat : Int) == 41) = false := beq_eq_false_iff_ne.2 (by omega)
  by_cases f4 : c.toNat = 61
  · have g4 : ((c.toNat : Int) == 61) = true := by simp; omega
    have hG : 1 = G := by rw [← hg]; exact (one_yes (by omega)).symm
    clear f4 hg f0 f1 f2 f3
    subst hG
    go_enter Tryz.func119, Tryz.ntmps119
    go_wp2
    go_ret
    exact ⟨rfl, rfl⟩
  have g4 : ((c.toNat : Int) == 61) = false := beq_eq_false_iff_ne.2 (by omega)
  by_cases f5 : c.toNat = 33
  · have g5 : ((c.toNat : Int) == 33) = true := by simp; omega
    have hG : 1 = G := by rw [← hg]; exact (one_yes (by omega)).symm
    clear f5 hg f0 f1 f2 f3 f4
    subst hG
    go_enter Tryz.func119, Tryz.ntmps119
    go_wp2
    go_ret
    exact ⟨rfl, rfl⟩
  have g5 : ((c.toNat : Int) == 33) = false := beq_eq_false_iff_ne.2 (by omega)
  by_cases f6 : c.toNat = 60
  · have g6 : ((c.toNat : Int) == 60) = true := by simp; omega
    have hG : 1 = G := by rw [← hg]; exact (one_yes (by omega)).symm
    clear f6 hg f0 f1 f2 f3 f4 f5
    subst hG
    go_enter Tryz.func119, Tryz.ntmps119
    go_wp2
    go_ret
    exact ⟨rfl, rfl⟩
  have g6 : ((c.toNat : Int) == 60) = false := beq_eq_false_iff_ne.2 (by omega)
  by_cases f7 : c.toNat = 43
  · have g7 : ((c.toNat : Int) == 43) = true := by simp; omega
    have hG : 1 = G := by rw [← hg]; exact (one_yes (by omega)).symm
    clear f7 hg f0 f1 f2 f3 f4 f5 f6
    subst hG
    go_enter Tryz.func119, Tryz.ntmps119
    go_wp2
    go_ret
    exact ⟨rfl, rfl⟩
  have g7 : ((c.toNat : Int) == 43) = false := beq_eq_false_iff_ne.2 (by omega)
  by_cases f8 : c.toNat = 45
  · have g8 : ((c.toNat : Int) == 45) = true := by simp; omega
    have hG : 1 = G := by rw [← hg]; exact (one_yes (by omega)).symm
    clear f8 hg f0 f1 f2 f3 f4 f5 f6 f7
    subst hG
    go_enter Tryz.func119, Tryz.ntmps119
    go_wp2
    go_ret
    exact ⟨rfl, rfl⟩
  have g8 : ((c.toNat : Int) == 45) = false := beq_eq_false_iff_ne.2 (by omega)
  by_cases f9 : c.toNat = 42
  · have g9 : ((c.toNat : Int) == 42) = true := by simp; omega
    have hG : 1 = G := by rw [← hg]; exact (one_yes (by omega)).symm
    clear f9 hg f0 f1 f2 f3 f4 f5 f6 f7 f8
    subst hG
    go_enter Tryz.func119, Tryz.ntmps119
    go_wp2
    go_ret
    exact ⟨rfl, rfl⟩
  have g9 : ((c.toNat : Int) == 42) = false := beq_eq_false_iff_ne.2 (by omega)
  have hG : 0 = G := by rw [← hg]; exact (one_no (by omega)).symm
  clear hg f0 f1 f2 f3 f4 f5 f6 f7 f8 f9
  subst hG
  go_enter Tryz.func119, Tryz.ntmps119
  go_wp2
  go_ret
  exact ⟨rfl, rfl⟩

set_option maxHeartbeats 2000000 in
theorem refSign_any (s : ByteArray) (w : World) (h0 : 0 < s.size) :
    Calls Tryz.prog 119 #[.string s] w fun e w' => e = .returned (.int .i64 (sgn (runes (bl s)) : Int)) ∧ w = w' := by
  have hlen : (bl s).length = s.size := rfl
  by_cases h1 : 1 < s.size
  · obtain ⟨c, d, r, hl⟩ : ∃ c d r, bl s = c :: d :: r := by
      match hb : bl s with
      | [] => rw [hb] at hlen; simp at hlen; omega
      | [_] => rw [hb] at hlen; simp at hlen; omega
      | c :: d :: r => exact ⟨c, d, r, rfl⟩
    have hs0 : s[0] = c := by
      have : s[0] = (bl s)[0]'(by omega) := rfl
      rw [this]; simp [hl]
    have hq : ∀ x y : UInt8, ((s.extract 0 2).toList == [x, y]) = (decide (c = x) && decide (d = y)) := fun x y => two_beq s c d x y r hl
    rw [hl, sgn_two]
    have hz : (0 : Int) < (s.size : Int) := by omega
    have hz1 : (1 : Int) < (s.size : Int) := by omega
    have hz2 : (2 : Int) ≤ (s.size : Int) := by omega
    by_cases a0 : c = 61 ∧ d = 61
    · have p0 : ((s.extract 0 2).toList == [61, 61]) = true := by rw [hq]; simp [a0.1, a0.2]
      have hG : (if pair (c.toNat : Int) (d.toNat : Int) = true then 2 else one (c.toNat : Int)) = 2 := by rw [a0.1, a0.2]; decide
      rw [hG]
      clear hq a0 hG
      go_enter Tryz.func119, Tryz.ntmps119
      go_wp2
      go_ret
      exact ⟨rfl, rfl⟩
    have p0 : ((s.extract 0 2).toList == [61, 61]) = false := by rw [hq]; exact and_no a0
    by_cases a1 : c = 33 ∧ d = 61
    · have p1 : ((s.extract 0 2).toList == [33, 61]) = true := by rw [hq]; simp [a1.1, a1.2]
      have hG : (if pair (c.toNat : Int) (d.toNat : Int) = true then 2 else one (c.toNat : Int)) = 2 := by rw [a1.1, a1.2]; decide
      rw [hG]
      clear hq a1 hG a0
      go_enter Tryz.func119, Tryz.ntmps119
      go_wp2
      go_ret
      exact ⟨rfl, rfl⟩
    have p1 : ((s.extract 0 2).toList == [33, 61]) = false := by rw [hq]; exact and_no a1
    by_cases a2 : c = 60 ∧ d = 61
    · have p2 : ((s.extract 0 2).toList == [60, 61]) = true := by rw [hq]; simp [a2.1, a2.2]
      have hG : (if pair (c.toNat : Int) (d.toNat : Int) = true then 2 else one (c.toNat : Int)) = 2 := by rw [a2.1, a2.2]; decide
      rw [hG]
      clear hq a2 hG a0 a1
      go_enter Tryz.func119, Tryz.ntmps119
      go_wp2
      go_ret
      exact ⟨rfl, rfl⟩
    have p2 : ((s.extract 0 2).toList == [60, 61]) = false := by rw [hq]; exact and_no a2
    by_cases a3 : c = 38 ∧ d = 38
    · have p3 : ((s.extract 0 2).toList == [38, 38]) = true := by rw [hq]; simp [a3.1, a3.2]
      have hG : (if pair (c.toNat : Int) (d.toNat : Int) = true then 2 else one (c.toNat : Int)) = 2 := by rw [a3.1, a3.2]; decide
      rw [hG]
      clear hq a3 hG a0 a1 a2
      go_enter Tryz.func119, Tryz.ntmps119
      go_wp2
      go_ret
      exact ⟨rfl, rfl⟩
    have p3 : ((s.extract 0 2).toList == [38, 38]) = false := by rw [hq]; exact and_no a3
    by_cases a4 : c = 124 ∧ d = 124
    · have p4 : ((s.extract 0 2).toList == [124, 124]) = true := by rw [hq]; simp [a4.1, a4.2]
      have hG : (if pair (c.toNat : Int) (d.toNat : Int) = true then 2 else one (c.toNat : Int)) = 2 := by rw [a4.1, a4.2]; decide
      rw [hG]
      clear hq a4 hG a0 a1 a2 a3
      go_enter Tryz.func119, Tryz.ntmps119
      go_wp2
      go_ret
      exact ⟨rfl, rfl⟩
    have p4 : ((s.extract 0 2).toList == [124, 124]) = false := by rw [hq]; exact and_no a4
    have hp : pair (c.toNat : Int) (d.toNat : Int) = false := by
      have hi : ∀ (x : UInt8) (k : Nat), (k : Int) = (x.toNat : Int) → x = UInt8.ofNat k := fun x k h => by
        have e : k = x.toNat := by omega
        rw [e]; simp
      refine decide_eq_false ?_
      rintro (⟨hb, ha⟩ | ⟨ha, hb⟩ | ⟨ha, hb⟩)
      · rcases ha with ha | ha | ha
        · exact a0 ⟨hi c 61 ha.symm, hi d 61 hb.symm⟩
        · exact a1 ⟨hi c 33 ha.symm, hi d 61 hb.symm⟩
        · exact a2 ⟨hi c 60 ha.symm, hi d 61 hb.symm⟩
      · exact a3 ⟨hi c 38 ha.symm, hi d 38 hb.symm⟩
      · exact a4 ⟨hi c 124 ha.symm, hi d 124 hb.symm⟩
    have hG : (if pair (c.toNat : Int) (d.toNat : Int) = true then 2 else one (c.toNat : Int)) = one (c.toNat : Int) := by rw [hp]; rfl
    rw [hG]
    exact refSign_two s w c h1 hs0 _ rfl p0 p1 p2 p3 p4
  · obtain ⟨c, hl⟩ : ∃ c, bl s = [c] := by
      match hb : bl s with
      | [] => rw [hb] at hlen; simp at hlen; omega
      | [c] => exact ⟨c, rfl⟩
      | _ :: _ :: _ => rw [hb] at hlen; simp at hlen; omega
    have hs0 : s[0] = c := by
      have : s[0] = (bl s)[0]'(by omega) := rfl
      rw [this]; simp [hl]
    rw [hl, sgn_one]
    exact refSign_one s w c h0 h1 hs0 _ rfl
end Go.Proofs.YtccmmkhcacglhaaGreatDoor
