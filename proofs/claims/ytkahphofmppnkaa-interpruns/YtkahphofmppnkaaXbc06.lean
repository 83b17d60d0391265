import Derived.Test.YtkahphofmppnkaaXbc05
import Derived.WalkKit
import Derived.Test.YtkahphofmppnkaaXbc02
import Derived.Deep.RegionHeldLaw
import Derived.Deep.DeepCutAuto
import Derived.Test.YtkahphofmppnkaaXbc01
import Derived.ProofKit
import Derived.OpenShut
import Derived.ShutString
import Derived.ChangeOld
import Derived.SizedLaws
import Derived.Below
import Derived.Test.YtkahphofmppnkaaRows
import Derived.Deep.Slices
import Derived.Test.YtkahphofmppnkaaXbc03

/- The document's Run. -/
namespace Go.Proofs.Ytkahphofmppnkaa
open Go.RowKit Go.Lib
set_option linter.unusedSimpArgs false
set_option linter.unusedVariables false
attribute [local go_sem ↓] Go.wp_at_zero Go.wp_at_succ
theorem endI_ne {st : List Int} (h : st.length ≠ 1) : endI st = (0, 2) := by
  match st, h with
  | [], _ => rfl
  | [x], h => exact absurd rfl h
  | _ :: _ :: _, _ => rfl
/-- Where the document's run stands. -/
def RunD (vs : List Int) (c : List In2) (R : Int × Int) (i : Nat) (st : List Int) (e : Int) : Prop := (e = 0 ∧ InR st ∧ st.length ≤ i ∧ rnI vs c i st = R) ∨ (e ≠ 0 ∧ R = (0, e))
set_option maxRecDepth 100000 in
set_option maxHeartbeats 4000000 in
theorem jrun_any {w : World} {ok ok' : Nat → Prop} {c : List In2} {vs : List Int} {cv vv : Value} (hc : RdK ok w 2 rIns c cv) (hv : RdK ok' w 1 rI64 vs vv) (hl : c.length ≤ 4000) :
    Calls Try.prog 7 #[cv, vv] w fun e w' => e = .returned (.tuple #[.int .i64 (runI vs c).1, .int .i64 (runI vs c).2]) ∧ Below w.heap.size w w' := by
  obtain ⟨R, hR⟩ : ∃ R, runI vs c = R := ⟨_, rfl⟩
  rw [hR]
  unfold runI at hR
  obtain ⟨a, cap, rfl, hlc, hcm, hcell⟩ := hc
  unfold maxLen at hcm
  obtain ⟨n, hn⟩ : ∃ n, c.length = n := ⟨_, rfl⟩
  rw [hn] at hl hlc hR ⊢
  obtain ⟨va, vc, rfl, _, _⟩ := hv.form
  obtain ⟨vn, hvn⟩ : ∃ n, vs.length = n := ⟨_, rfl⟩
  rw [hvn] at hv ⊢
  clear hvn
  have HC := hideI hcell
  have HN := hideI hn
  clear hcell hn
  by_cases h1 : n > 1000
  · rw [if_pos h1] at hR
    subst hR
    have h2 : (n : Int) > 1000 := by omega
    clear hv HC
    go_enter Try.func7, Try.ntmps7
    go_wp2
    go_ret2
    exact ⟨rfl, Below.refl _ _⟩
  · rw [if_neg h1] at hR
    have HR : Hid (RunD vs c R 0 [] 0) := .inl ⟨rfl, fun x hx => absurd hx (by simp), Nat.le_refl _, hR⟩
    have h2 : ¬ (n : Int) > 1000 := by omega
    clear hR
    go_enter Try.func7, Try.ntmps7
    go_wp2
    have hal : Below w.heap.size w (w.alloc (.cells #[.slice none 0 0, .int .i64 0] 41)) := (Below.refl _ _).alloc (Nat.le_refl _) _
    have hM : Md (w.alloc (.cells #[.slice none 0 0, .int .i64 0] 41)) w.heap.size (.slice none 0 0) [] 0 := ⟨Bn.new w [.slice none 0 0, .int .i64 0] 41 _ rfl, World.ownsRow_nil _ _ _ _⟩
    generalize (w.alloc (.cells #[.slice none 0 0, .int .i64 0] 41)) = w1 at *
    go_loopw [7] (fun ix wr => ∃ (i : Nat) (st : List Int) (lv : Value) (e : Int), i ≤ n ∧ ix = .int .i64 (i : Int) ∧ Md wr w.heap.size lv st e ∧ Hid (RunD vs c R i st e) ∧ Below w.heap.size w wr) (fun ix _ => n - (RowKit.intOf ix).toNat)
    case atStart => exact ⟨0, [], _, 0, Nat.zero_le _, rfl, hM, HR, hal⟩
    case round =>
      obtain ⟨i, st, lv, e, hi, rfl, hm, HQ, hb⟩ := hrel
      clear hM hal HR
      obtain ⟨d1, g1⟩ := hm.b 1 _ rfl
      by_cases he : e = 0
      · subst he
        by_cases hlt : i < n
        · obtain ⟨hin, hsl, hQ⟩ : InR st ∧ st.length ≤ i ∧ rnI vs c i st = R := by
            rcases HQ.out with h | h
            · exact h.2
            · exact absurd rfl h.1
          have hil : i < c.length := by rw [HN.out]; exact hlt
          obtain ⟨g, off, cs, rfl, _, hgl, _, hcs, hcl⟩ := HC.out i hil
          have c0 := hcl 0 (.string (c[i]).1) (by rw [hcs]; rfl)
          have c1 := hcl 1 (.int .i64 (c[i]).2) (by rw [hcs]; rfl)
          rw [Nat.add_zero] at c0
          have C0 := (hb.cell (p := ⟨g, off + i * 2, none⟩) hgl).trans c0
          have C1 := (hb.cell (p := ⟨g, off + i * 2 + 1, none⟩) hgl).trans c1
          have hvr : RdK (fun b => ok' b ∧ b < w.heap.size) wr 1 rI64 vs (.slice va vn vc) := hv.keep (fun _ _ _ h => h) (fun b ho hlb => ⟨⟨ho, hlb⟩, hb.block b hlb⟩)
          have hcall := jstep_any hm hvr (c[i]).1 (c[i]).2 (n - i - 1) (by omega) (by omega) hin
          have HS : Hid (∀ p st' e', StD vs (c[i]).1.data.toList (c[i]).2 (n - i - 1) st p st' e' → p ≤ n - i - 1 ∧ RunD vs c R (i + p + 1) st' e') := by
            intro p st' e' hs
            refine ⟨hs.1, ?_⟩
            rw [← HN.out] at hs
            by_cases h0 : e' = 0
            · have h3 := hs.2.2 h0
              have k1 := stpI_len vs (c[i]).1.data.toList (c[i]).2 (c.length - i - 1) st
              have k2 := stpI_in (vs := vs) (s := (c[i]).1.data.toList) (n := (c[i]).2) (beh := c.length - i - 1) hin
              rw [h3] at k1 k2
              simp only at k1 k2
              exact .inl ⟨h0, k2, by omega, (rnI_ok hil h3).symm.trans hQ⟩
            · refine .inr ⟨h0, ?_⟩
              rw [← hQ]
              obtain ⟨⟨p2, e2, s2⟩, hst⟩ : ∃ r, stpI vs (c[i]).1.data.toList (c[i]).2 (c.length - i - 1) st = r := ⟨_, rfl⟩
              have h3 := hs.2.1
              rw [hst] at h3
              simp only at h3
              rw [h3] at h0 ⊢
              exact rnI_bad hil hst h0
          obtain ⟨xs, hxs⟩ : ∃ x, (c[i]).1 = x := ⟨_, rfl⟩
          obtain ⟨xn, hxn⟩ : ∃ x, (c[i]).2 = x := ⟨_, rfl⟩
          rw [hxs] at C0 hcall HS
          rw [hxn] at C1 hcall HS
          have i1 : (i : Int) < (n : Int) := by omega
          have i2 : (0 : Int) ≤ (i : Int) := by omega
          have i3 : (n : Int) - (i : Int) - 1 = ((n - i - 1 : Nat) : Int) := by omega
          obtain ⟨bh, hbh⟩ : ∃ k, n - i - 1 = k := ⟨_, rfl⟩
          rw [hbh] at i3 hcall HS
          have i4 : i + bh + 1 ≤ n := by omega
          clear c0 c1 hcl hcs hxs hxn HQ hm hvr hin hQ hbh
          go_wp2_with (first
            | (go_at_call 9; refine hcall.mono ?_; rintro e w3 ⟨p, st3, e3, rfl, ⟨lv3, hm3⟩, b3, hs⟩; obtain ⟨hp, hQ3⟩ := HS.out p st3 e3 hs; have HQ3 := hideI hQ3; clear hs hQ3)
            | fail)
          go_roundw
          case rel => exact ⟨i + p + 1, st3, lv3, e3, by omega, by go_num, hm3, HQ3, hb.trans (b3.below (Nat.le_refl _) hb.size)⟩
          case measure => simp [RowKit.intOf]; omega
        · have i1 : ¬ (i : Int) < (n : Int) := by omega
          have hE : endI st = R := by
            rcases HQ.out with h | h
            · exact (rnI_end (by rw [HN.out]; exact hlt)).symm.trans h.2.2.2
            · exact absurd rfl h.1
          obtain ⟨d0, g0⟩ := hm.b 0 _ rfl
          clear HQ hv HC
          by_cases hs : st.length = 1
          · obtain ⟨x, rfl⟩ : ∃ x, st = [x] := List.length_eq_one_iff.1 hs
            obtain ⟨g, cap0, rfl, _, _, _, _, c2, _⟩ := own_top hm.s
            have HE := hideI hE
            simp only [List.length_nil, Nat.zero_add] at c2 d0
            clear hm hE hs
            go_wp2
            go_ret2
            rw [← HE.out]
            exact ⟨rfl, hb⟩
          · have HE := hideI ((endI_ne hs).symm.trans hE)
            have hf := jfail_any hm 2
            rw [flE_0] at hf
            have hrow := hm.s
            obtain ⟨k, hk⟩ : ∃ k, st.length = k := ⟨_, rfl⟩
            rw [hk] at hrow hs
            have i4 : ¬ (k : Int) = 1 := by omega
            obtain ⟨a0, cap0, rfl, _, _⟩ := orow_form hrow
            clear hm hE hk hrow
            go_upto_region 11 with (first
              | (go_at_call 10; refine hf.mono ?_; rintro x w2 ⟨⟨u, rfl⟩, hm2, b2⟩; obtain ⟨y1, _⟩ := hm2.b 1 _ rfl)
              | fail)
            have hb2 := hb.trans (b2.below (Nat.le_refl _) hb.size)
            go_quiet (fail)
            go_wp2
            go_ret2
            rw [← HE.out]
            exact ⟨rfl, ⟨hb2.os, hb2.tape, hb2.output, hb2.size, hb2.block⟩⟩
      · have hE : R = (0, e) := by
          rcases HQ.out with h | h
          · exact absurd h.1 he
          · exact h.2
        obtain ⟨d0, g0⟩ := hm.b 0 _ rfl
        have HE := hideI hE
        have he2 : (e == 0) = false := beq_eq_false_iff_ne.2 he
        have hf := jfail_any hm 2
        have hfl : flE e 2 = e := by unfold flE; rw [if_neg he]
        rw [hfl] at hf
        have hrow := hm.s
        obtain ⟨k, hk⟩ : ∃ k, st.length = k := ⟨_, rfl⟩
        rw [hk] at hrow
        obtain ⟨a0, cap0, rfl, _, _⟩ := orow_form hrow
        clear HQ hv HC hE hm hk hrow hfl
        by_cases hs : k = 1
        · subst hs
          by_cases hlt : i < n
          · have i1 : (i : Int) < (n : Int) := by omega
            go_upto_region 11 with fail
            go_quiet (fail)
            go_wp2
            go_ret2
            rw [HE.out]
            exact ⟨rfl, ⟨hb.os, hb.tape, hb.output, hb.size, hb.block⟩⟩
          · have i1 : ¬ (i : Int) < (n : Int) := by omega
            go_upto_region 11 with fail
            go_quiet (fail)
            go_wp2
            go_ret2
            rw [HE.out]
            exact ⟨rfl, ⟨hb.os, hb.tape, hb.output, hb.size, hb.block⟩⟩
        · have i4 : ¬ (k : Int) = 1 := by omega
          by_cases hlt : i < n
          · have i1 : (i : Int) < (n : Int) := by omega
            go_upto_region 11 with (first
              | (go_at_call 10; refine hf.mono ?_; rintro x w2 ⟨⟨u, rfl⟩, hm2, b2⟩; obtain ⟨y1, _⟩ := hm2.b 1 _ rfl)
              | fail)
            have hb2 := hb.trans (b2.below (Nat.le_refl _) hb.size)
            go_quiet (fail)
            go_wp2
            go_ret2
            rw [HE.out]
            exact ⟨rfl, ⟨hb2.os, hb2.tape, hb2.output, hb2.size, hb2.block⟩⟩
          · have i1 : ¬ (i : Int) < (n : Int) := by omega
            go_upto_region 11 with (first
              | (go_at_call 10; refine hf.mono ?_; rintro x w2 ⟨⟨u, rfl⟩, hm2, b2⟩; obtain ⟨y1, _⟩ := hm2.b 1 _ rfl)
              | fail)
            have hb2 := hb.trans (b2.below (Nat.le_refl _) hb.size)
            go_quiet (fail)
            go_wp2
            go_ret2
            rw [HE.out]
            exact ⟨rfl, ⟨hb2.os, hb2.tape, hb2.output, hb2.size, hb2.block⟩⟩
end Go.Proofs.Ytkahphofmppnkaa

/- Nodes: which one lies in which, by how deep they lie, and by their parents. Math alone. -/
namespace Go.Proofs.Ytkahphofmppnkaa
set_option linter.unusedVariables false

/-- The last one ahead of k that lies less than d deep. -/
def ppar (D : Nat → Int) (d : Int) : Nat → Int
  | 0 => -1
  | k + 1 => if D k < d then (k : Int) else ppar D d k
/-- The first one from j on, of f, that lies no more than d deep. -/
def pbeh (D : Nat → Int) (d : Int) : Nat → Nat → Nat
  | 0, j => j
  | f + 1, j => if d < D j then pbeh D d f (j + 1) else j
theorem pbeh_le (D : Nat → Int) (d : Int) : ∀ f j : Nat, j ≤ pbeh D d f j ∧ pbeh D d f j ≤ j + f
  | 0, j => by unfold pbeh; omega
  | f + 1, j => by
    have := pbeh_le D d f (j + 1)
    unfold pbeh
    split <;> omega
/-- Each lies at most 1 deeper than the one ahead. -/
def nst (D : Nat → Int) (n : Nat) : Prop := ∀ i < n, 0 ≤ D i ∧ (i = 0 → D i ≤ 0) ∧ (0 < i → D i ≤ D (i - 1) + 1)
/-- What is told of the nodes follows of how deep they lie. -/
def FmP (n : Nat) (D P B : Nat → Int) (L : Nat → Bool) : Prop :=
  n ≤ 40 ∧ nst D n ∧ ∀ i < n, P i = ppar D (D i) i ∧ B i = (pbeh D (D i) (n - (i + 1)) (i + 1) : Nat) ∧ L i = decide (B i = (i : Int) + 1)
theorem FmP.beh {n : Nat} {D P B : Nat → Int} {L : Nat → Bool} (h : FmP n D P B L) {i : Nat} (hi : i < n) : (i : Int) < B i ∧ B i ≤ n := by
  rw [(h.2.2 i hi).2.1]
  have := pbeh_le D (D i) (n - (i + 1)) (i + 1)
  omega
end Go.Proofs.Ytkahphofmppnkaa

/- Nodes in memory. -/
namespace Go.Proofs.Ytkahphofmppnkaa
open Go.RowKit Go.Lib
set_option linter.unusedSimpArgs false
set_option linter.unusedVariables false

instance decNst (D : Nat → Int) (n : Nat) : Decidable (nst D n) := by unfold nst; infer_instance
instance decFmP (n : Nat) (D P B : Nat → Int) (L : Nat → Bool) : Decidable (FmP n D P B L) := by unfold FmP; infer_instance
theorem RdK.on {α : Type} {ok : Nat → Prop} {w w' : World} {k : Nat} {R : (Nat → Prop) → World → α → List Value → Prop} {v : Value} {l : List α} (hR : Kp R) (h : RdK ok w k (R ok w) l v) (hb : Below w.heap.size w w') : RdK ok w' k (R ok w') l v :=
  h.stay hR (fun b hk hlt => ⟨hk, hb.block b hlt⟩)
end Go.Proofs.Ytkahphofmppnkaa

/- What the program's nested and placed answer. -/
namespace Go.Proofs.Ytkahphofmppnkaa
open Go.RowKit Go.Lib
set_option linter.unusedSimpArgs false
set_option linter.unusedVariables false
attribute [local go_sem ↓] Go.wp_at_zero Go.wp_at_succ

end Go.Proofs.Ytkahphofmppnkaa

/- A row with a zero element at its end, in whose place another is put. -/
namespace Go.Proofs.Ytkahphofmppnkaa
open Go.RowKit Go.Lib
set_option linter.unusedSimpArgs false
set_option linter.unusedVariables false

/-- The row v', of l and a zero element. -/
def ZR {α : Type} (w : World) (base : Nat) (bad : Nat → Prop) (e k : Nat) (R : (Nat → Prop) → World → α → List Value → Prop) (zs : List Value) (g cap : Nat) (l : List α) : Prop :=
  base ≤ g ∧ g < w.heap.size ∧ ¬ bad g ∧ ∃ qs : List (List Value), w.ownsRow base e k (.slice (some ⟨g, 0, none⟩) (l.length + 1) cap) (l.length + 1) (qs.flatten ++ zs) ∧ qs.length = l.length ∧ ∀ (i : Nat) (h : i < l.length) (h' : i < qs.length), (qs[i]).length = k ∧ R (fun b => base ≤ b ∧ g ≠ b ∧ ¬ bad b) w l[i] qs[i]
theorem ZR.keep {α : Type} {w w' : World} {base e k g cap : Nat} {bad : Nat → Prop} {R : (Nat → Prop) → World → α → List Value → Prop} {zs : List Value} {l : List α} (hR : Kp R) (h : ZR w base bad e k R zs g cap l) (hs : w.heap.size ≤ w'.heap.size) (hk : ∀ b, base ≤ b → ¬ bad b → b < w.heap.size → w'.heap[b]? = w.heap[b]?) : ZR w' base bad e k R zs g cap l := by
  obtain ⟨h1, h2, h3, qs, ho, hl, hr⟩ := h
  refine ⟨h1, by omega, h3, qs, ownsRow_keep ho (fun g' hg => ?_), hl, fun i h h' => ⟨(hr i h h').1, hR (hr i h h').2 (fun b hb hlt => ⟨hb, hk b hb.1 hb.2.2 hlt⟩)⟩⟩
  simp only [Value.ownBlock, Option.some.injEq] at hg
  subst hg
  exact hk g h1 h3 h2
theorem ZR.on {α : Type} {w w' : World} {base e k g cap : Nat} {bad : Nat → Prop} {R : (Nat → Prop) → World → α → List Value → Prop} {zs : List Value} {l : List α} (hR : Kp R) (h : ZR w base bad e k R zs g cap l) (hb : Below w.heap.size w w') : ZR w' base bad e k R zs g cap l := h.keep hR hb.size (fun b _ _ hlt => hb.block b hlt)
theorem ZR.fx {α : Type} {w w' : World} {base e k g cap X : Nat} {bad : Nat → Prop} {R : (Nat → Prop) → World → α → List Value → Prop} {zs : List Value} {l : List α} (hR : Kp R) (h : ZR w base bad e k R zs g cap l) (hf : Fx X w w') (hX : X < base) : ZR w' base bad e k R zs g cap l :=
  h.keep hR hf.size (fun b hb _ hlt => hf.block b hlt (fun e => by have : b = X := Option.some.inj e; omega))
theorem flat_len {k : Nat} : ∀ (qs : List (List Value)), (∀ (i : Nat) (h : i < qs.length), (qs[i]).length = k) → qs.flatten.length = qs.length * k
  | [], _ => by simp
  | x :: t, h => by
    have hx : x.length = k := h 0 (by simp)
    rw [List.flatten_cons, List.length_append, flat_len t (fun i hi => h (i + 1) (by simpa using hi)), List.length_cons, Nat.succ_mul]
    omega
theorem ZR.cells {α : Type} {w : World} {base e k g cap : Nat} {bad : Nat → Prop} {R : (Nat → Prop) → World → α → List Value → Prop} {zs : List Value} {l : List α} (h : ZR w base bad e k R zs g cap l) : ∀ j z, zs[j]? = some z → w.cell? ⟨g, l.length * k + j, none⟩ = some z ∧ w.frozen? ⟨g, l.length * k + j, none⟩ = false := by
  obtain ⟨h1, h2, h3, qs, ho, hl, hr⟩ := h
  intro j z hz
  have hfl : qs.flatten.length = l.length * k := by rw [flat_len qs (fun i hi => (hr i (by omega) hi).1), hl]
  have hc := World.ownsRow.cells ho (g := g) rfl (l.length * k + j) z (by rw [List.getElem?_append_right (by omega), hfl, Nat.add_sub_cancel_left]; exact hz)
  rw [add_plain, Nat.zero_add] at hc
  exact ⟨hc, World.ownsRow.frozenAt ho _⟩
/-- The zero element is there. -/
theorem ZR.of {α : Type} {w w' : World} {base e k : Nat} {bad : Nat → Prop} {R : (Nat → Prop) → World → α → List Value → Prop} {v v' : Value} {zs : List Value} {l : List α} {qs : List (List Value)} (hR : Kp R)
    (ho : w.ownsRow base e k v l.length qs.flatten) (hl : qs.length = l.length) (hr : ∀ (i : Nat) (h : i < l.length) (h' : i < qs.length), (qs[i]).length = k ∧ R (fun b => base ≤ b ∧ v.ownBlock ≠ some b ∧ ¬ bad b) w l[i] qs[i]) (hgb : ∀ g, v.ownBlock = some g → ¬ bad g)
    (ho' : w'.ownsRow base e k v' (l.length + 1) (qs.flatten ++ zs)) (hg : w.grownBy w' v.ownBlock) (hat : v'.ownBlock = v.ownBlock ∨ v'.ownBlock = some w.heap.size) (hbad : ∀ b, bad b → b < w.heap.size) : ∃ g cap, v' = .slice (some ⟨g, 0, none⟩) (l.length + 1) cap ∧ l.length + 1 ≤ cap ∧ cap ≤ maxLen ∧ (v.ownBlock = some g ∨ g = w.heap.size) ∧ ZR w' base bad e k R zs g cap l := by
  rcases ho'.2 with ⟨_, h2⟩ | ⟨g, cap, cur, rfl, hb, hgg, hnc, hcm, _⟩
  · omega
  · have hgl : g < w'.heap.size := (Array.getElem?_eq_some_iff.1 hgg).1
    have hat' : v.ownBlock = some g ∨ g = w.heap.size := by
      simp only [Value.ownBlock] at hat
      rcases hat with h | h
      · exact .inl h.symm
      · exact .inr (Option.some.inj h)
    have hng : ¬ bad g := by
      rcases hat' with h | h
      · exact hgb g h
      · intro q; have := hbad g q; omega
    refine ⟨g, cap, rfl, hnc, hcm, hat', hb, hgl, hng, qs, ho', hl, fun i h h' => ⟨(hr i h h').1, hR (hr i h h').2 (fun b hb hlt => ⟨⟨hb.1, fun e => ?_, hb.2.2⟩, hg.block b hlt (fun e => hb.2.1 e.symm)⟩)⟩⟩
    subst e
    rcases hat' with h | h
    · exact hb.2.1 h
    · omega
/-- The element put in. -/
theorem ZR.put {α : Type} {w : World} {base e k g cap : Nat} {bad : Nat → Prop} {R : (Nat → Prop) → World → α → List Value → Prop} {zs : List Value} {l : List α} {p : α} {cs : List Value} (hR : Kp R) (h : ZR w base bad e k R zs g cap l) (hk : cs.length = k) (hz : zs.length = k) (hp : R (fun b => base ≤ b ∧ g ≠ b ∧ ¬ bad b) w p cs) : OwnB (putL w g (l.length * k) cs) base bad e k R (.slice (some ⟨g, 0, none⟩) (l.length + 1) cap) (l ++ [p]) := by
  obtain ⟨h1, h2, h3, qs, ho, hl, hr⟩ := h
  have hfl : qs.flatten.length = l.length * k := by rw [flat_len qs (fun i hi => (hr i (by omega) hi).1), hl]
  have ho2 := putL_own cs zs qs.flatten [] w base e k g (l.length + 1) cap (l.length * k) (by omega) hfl (by simpa using ho)
  rw [List.append_nil] at ho2
  have key : ∀ b, base ≤ b ∧ g ≠ b ∧ ¬ bad b → b < w.heap.size → (base ≤ b ∧ (Value.slice (some ⟨g, 0, none⟩) (l.length + 1) cap).ownBlock ≠ some b ∧ ¬ bad b) ∧ (putL w g (l.length * k) cs).heap[b]? = w.heap[b]? := fun b hb hlt =>
    ⟨⟨hb.1, fun e => hb.2.1 (Option.some.inj e), hb.2.2⟩, putL_heap cs w g _ b (fun e => hb.2.1 e.symm)⟩
  refine ⟨qs ++ [cs], ?_, by simp [hl], fun i h h' => ?_, fun g' hg' => ?_⟩
  · rw [List.flatten_append, List.length_append]
    simpa using ho2
  · rcases Nat.lt_or_ge i l.length with hi | hi
    · rw [List.getElem_append_left hi, List.getElem_append_left (by omega)]
      exact ⟨(hr i hi (by omega)).1, hR (hr i hi (by omega)).2 key⟩
    · have : i = l.length := by simp at h; omega
      subst this
      have e1 : (l ++ [p])[l.length] = p := by simp
      have e2 : (qs ++ [cs])[l.length]'h' = cs := by simp [← hl]
      rw [e1, e2]
      exact ⟨hk, hR hp key⟩
  · simp only [Value.ownBlock, Option.some.injEq] at hg'
    subst hg'
    exact h3
end Go.Proofs.Ytkahphofmppnkaa

/- What the program's placed answers. -/
namespace Go.Proofs.Ytkahphofmppnkaa
open Go.RowKit Go.Lib
set_option linter.unusedSimpArgs false
set_option linter.unusedVariables false
attribute [local go_sem ↓] Go.wp_at_zero Go.wp_at_succ




theorem wpList_pushK {α : Type} {P : Program} (w : World) {ops : Array Oper} {rest : List Oper} {o : Oper} {a : Act} {Q : Exit → Act → World → Prop} (hgd : o.guard = none) (s x : Operand) (t : TypeId)
    (ho : o.op = .call { callee := .builtin .append, args := #[s, x], argTypes := #[t, t] })
    (base : Nat) (e : TypeId) (i : TypeInfo) (z : Value) (k bytes : Nat) (ht : P.underlying t = some (.slice e)) (hi : P.info? e = some i) (hz : i.zero = some z)
    (hsize : i.size = k) (hby : i.bytes = bytes) (hzs : z.cells.size = k) {R : (Nat → Prop) → World → α → List Value → Prop} (hR : Kp R)
    (v : Value) (l : List α) (p : α) (cs : List Value) (lo : Nat) (hs : a.eval s = v) (hx : a.eval x = .slice (some ⟨w.heap.size, 0, none⟩) 1 1) (hk : cs.length = k) (h1 : ∀ u ∈ cs, u.oneCell' = true)
    (hown : OwnK w base e k R v l) (hp : R (fun b => lo ≤ b) w p cs) (hlo : base ≤ lo) (hv : ∀ x, v.ownBlock = some x → x < lo) (hroom : (l.length + 1 + (l.length + 1) / 4 + 192) * bytes ≤ 281474976710656)
    (h63 : l.length + 1 ≤ maxLen) (hbase : base ≤ w.heap.size)
    (h : ∀ v' w', OwnK w' base e k R v' (l ++ [p]) → (w.alloc (.cells cs.toArray e)).grownBy w' v.ownBlock → Below base w w' → wpList P ops Q rest (a.put o.dst v') w') :
    wpList P ops Q (o :: rest) a (w.alloc (.cells cs.toArray e)) := by
  have hal : Below w.heap.size w (w.alloc (.cells cs.toArray e)) := (Below.refl _ _).alloc (Nat.le_refl _) _
  obtain ⟨qs, ho1, hl1, hr1⟩ := hown.on hR hal
  refine wpList_append_at _ hgd s x t t ho base e i z k bytes ht hi hz hsize hby hzs v l.length qs.flatten hs ho1 _ 1 cs hx (src_row ht w cs hk h1) 1 (.inr hroom) (Nat.le_refl _) h63 (Nat.le_trans hbase hal.size) ?_
  intro v' w' hown' hg hat
  refine h v' w' (OwnK.snoc hR hk rfl ho1 hl1 hr1 hown' hg hat (hR hp (fun b hb hlt => ⟨hb, hal.block b hlt⟩)) hlo hv) hg ?_
  exact ((Below.refl base w).alloc hbase _).grown hg (Nat.le_trans hbase hal.size) (fun k hk => (World.ownsRow.lt ho1 k hk).1)
theorem OwnK.blk {α : Type} {w : World} {base e k : Nat} {R : (Nat → Prop) → World → α → List Value → Prop} {v : Value} {l : List α} (h : OwnK w base e k R v l) : ∀ x, v.ownBlock = some x → base ≤ x ∧ x < w.heap.size := by
  obtain ⟨qs, ho, _⟩ := h
  exact ownsRow_lt ho
def rInsK (ok : Nat → Prop) (w : World) (x : In2) (cs : List Value) : Prop := rIns x cs
theorem kp_ins : Kp rInsK := fun _ _ _ _ _ _ h _ => h
theorem Try.infoIns : (Try.prog.info? 34).map (fun i => (i.zero, i.size, i.bytes)) = some (some (.agg #[.string ByteArray.empty, .int .i64 0]), 2, 24) := by kernel_rfl
theorem ins_info : ∃ i, Try.prog.info? 34 = some i ∧ i.zero = some (.agg #[.string ByteArray.empty, .int .i64 0]) ∧ i.size = 2 ∧ i.bytes = 24 := by
  have h := Try.infoIns
  cases hq : Try.prog.info? 34 with
  | none => rw [hq] at h; cases h
  | some i =>
    rw [hq] at h
    simp only [Option.map_some, Option.some.injEq, Prod.mk.injEq] at h
    exact ⟨i, rfl, h.1, h.2.1, h.2.2⟩
set_option maxRecDepth 100000 in
set_option maxHeartbeats 4000000 in
theorem theirCode_any {w : World} {ok : Nat → Prop} {c : List In2} {cv : Value} (hc : RdK ok w 2 rIns c cv) (hl : c.length ≤ 4000) :
    Calls Try.prog 6 #[cv] w fun e w' => ∃ v, e = .returned v ∧ RdK (fun b => w.heap.size ≤ b) w' 2 rIns c v ∧ Below w.heap.size w w' := by
  obtain ⟨a, cap, rfl, hlc, hcm, hcell⟩ := hc
  unfold maxLen at hcm
  obtain ⟨n, hn⟩ : ∃ n, c.length = n := ⟨_, rfl⟩
  rw [hn] at hl hlc ⊢
  have HC := hideI hcell
  have HN := hideI hn
  obtain ⟨i0, hi, hz0, hz1, hz2⟩ := ins_info
  clear hcell hn
  go_enter Try.func6, Try.ntmps6
  go_wp2
  go_loopw [3, 7] (fun t ix wr => ∃ (j : Nat) (ta : Option Addr) (tc : Nat), j ≤ n ∧ ix = .int .i64 (j : Int) ∧ t = .slice ta j tc ∧ OwnK wr w.heap.size 34 2 rInsK (.slice ta j tc) (c.take j) ∧ Below w.heap.size w wr) (fun _ ix _ => n - (RowKit.intOf ix).toNat)
  case atStart => exact ⟨0, none, 0, Nat.zero_le _, rfl, rfl, ownK_nil _ _ _ _ _, Below.refl _ _⟩
  case round =>
    obtain ⟨j, ta, tc, hj, rfl, rfl, hO, hb⟩ := hrel
    by_cases hlt : j < n
    · have hjl : j < c.length := by rw [HN.out]; exact hlt
      obtain ⟨g, off, cs, rfl, _, hgl, _, hcs, hcl⟩ := HC.out j hjl
      have c0 := hcl 0 (.string (c[j]).1) (by rw [hcs]; rfl)
      have c1 := hcl 1 (.int .i64 (c[j]).2) (by rw [hcs]; rfl)
      rw [Nat.add_zero] at c0
      have C0 := (hb.cell (p := ⟨g, off + j * 2, none⟩) hgl).trans c0
      have C1 := (hb.cell (p := ⟨g, off + j * 2 + 1, none⟩) hgl).trans c1
      have HS : Hid (c.take (j + 1) = c.take j ++ [((c[j]).1, (c[j]).2)]) := List.take_succ_eq_append_getElem hjl
      have hlj : (c.take j).length = j := by rw [List.length_take]; omega
      have HLJ := hideI hlj
      have HL2 : Hid ((c.take (j + 1)).length = j + 1) := by show _ = _; rw [List.length_take, HN.out]; omega
      obtain ⟨xs, hxs⟩ : ∃ x, (c[j]).1 = x := ⟨_, rfl⟩
      obtain ⟨xn, hxn⟩ : ∃ x, (c[j]).2 = x := ⟨_, rfl⟩
      rw [hxs] at C0 HS
      rw [hxn] at C1 HS
      have i1 : (j : Int) < (n : Int) := by omega
      have i2 : (0 : Int) ≤ (j : Int) := by omega
      clear c0 c1 hxs hxn hlj hcl hcs
      go_wp2_with (first
        | (at_builtin; refine wpList_pushK wr rfl _ _ 30 rfl w.heap.size 34 i0 _ 2 24 Try.underlying30 hi hz0 hz1 hz2 rfl kp_ins (.slice ta j tc) (c.take j) (xs, xn) [.string xs, .int .i64 xn] wr.heap.size rfl rfl rfl (by simp [Value.oneCell']) hO rfl hb.size (fun x hx => (hO.blk x hx).2) (by rw [HLJ.out]; omega) (by rw [HLJ.out]; unfold maxLen; omega) hb.size ?_; intro vb wb hOb hgb hbb; rw [← HS.out] at hOb; obtain ⟨a2, cap2, he2, hlc2, hcm2⟩ := hOb.form; rw [HL2.out] at he2; subst he2)
        | fail)
      go_roundw
      case rel => exact ⟨j + 1, a2, cap2, hlt, by go_num, rfl, hOb, hb.trans hbb⟩
      case measure => simp [RowKit.intOf]; omega
    · have i1 : ¬ (j : Int) < (n : Int) := by omega
      have hjn : c.take j = c := List.take_of_length_le (by rw [HN.out]; omega)
      rw [hjn] at hO
      go_wp2
      go_ret
      exact ⟨_, rfl, hO.rd kp_ins, hb⟩
theorem awake13_any (w : World) : Calls Try.prog 4 #[] w fun e w' => e = .returned (.bool true) ∧ Below w.heap.size w w' := by
  have hal : Below w.heap.size w (w.alloc (.cells #[.string ⟨#[112, 117, 115, 104]⟩, .int .i64 5] 34)) := (Below.refl _ _).alloc (Nat.le_refl _) _
  have hc : RdK (fun _ => True) (w.alloc (.cells #[.string ⟨#[112, 117, 115, 104]⟩, .int .i64 5] 34)) 2 rIns [(⟨#[112, 117, 115, 104]⟩, 5)] (.slice (some ⟨w.heap.size, 0, none⟩) 1 1) := by
    refine ⟨_, 1, rfl, by simp, by simp [maxLen], fun i hi => ?_⟩
    have hi0 : i = 0 := by simp at hi; omega
    subst hi0
    refine ⟨w.heap.size, 0, [.string ⟨#[112, 117, 115, 104]⟩, .int .i64 5], rfl, trivial, by simp, rfl, rfl, fun j u hu => ?_⟩
    rw [Nat.zero_mul, Nat.zero_add]
    try rw [Nat.zero_add]
    exact (Bn.new w [.string ⟨#[112, 117, 115, 104]⟩, .int .i64 5] 34 _ rfl j u hu).1
  have hr := irun_any hc (rdK_none (fun _ => True) _ 1 rI64) (by simp)
  have e9 : runI [] [(⟨#[112, 117, 115, 104]⟩, 5)] = (5, 0) := by
    unfold runI
    rw [if_neg (by simp)]
    rw [rnI_ok (p := 0) (st' := [5]) (by simp) rfl]
    rw [rnI_end (by simp)]
    rfl
  rw [e9] at hr
  clear hc e9
  go_enter Try.func4, Try.ntmps4
  go_wp2_with (first
    | (go_at_call 5; refine hr.mono ?_; rintro e w1 ⟨rfl, b1⟩)
    | fail)
  go_ret
  exact ⟨rfl, hal.trans (b1.mono hal.size)⟩
set_option maxRecDepth 100000 in
set_option maxHeartbeats 4000000 in
theorem interpRuns_walk {w : World} {c : List In2} {vs : List Int} {a va : Option Addr} {n cap vn vc : Nat} (hc : RdK (fun _ => True) w 2 rIns c (.slice a n cap)) (hv : RdK (fun _ => True) w 1 rI64 vs (.slice va vn vc)) :
    Calls Try.prog 3 #[.slice a n cap, .slice va vn vc] w fun e w' => e = .returned (.bool true) ∧ Below w.heap.size w w' := by
  have ha := fun w1 => awake13_any w1
  have HC := hideI hc
  have HV := hideI hv
  obtain ⟨_, _, he, hlc, hcm, hcell⟩ := hc
  simp only [Value.slice.injEq] at he
  obtain ⟨rfl, hn, rfl⟩ := he
  obtain ⟨_, _, he, hvlc, hvcm⟩ := hv.form
  simp only [Value.slice.injEq] at he
  obtain ⟨rfl, hvn, rfl⟩ := he
  rw [← hn] at hlc
  have HN := hideI hn
  have HL := hideI hcell
  unfold maxLen at hcm
  clear hn hvn hcell hv hvlc hvcm
  have tok : True := trivial
  by_cases h1 : n > 1200
  · have i1 : (n : Int) > 1200 := by omega
    clear HL HC HV HN
    go_enter Try.func3, Try.ntmps3
    go_wp2_with (first
      | (go_at_call 4; have _t := tok; refine (ha _).mono ?_; rintro e w1 ⟨rfl, b1⟩; clear tok)
      | (go_at_call 4; refine (ha _).mono ?_; rintro e w2 ⟨rfl, b2⟩)
      | fail)
    go_ret
    exact ⟨rfl, b1.trans (b2.mono b1.size)⟩
  by_cases h2 : vn > 100
  · have i1 : ¬ (n : Int) > 1200 := by omega
    have i2 : (vn : Int) > 100 := by omega
    clear HL HC HV HN
    go_enter Try.func3, Try.ntmps3
    go_wp2_with (first
      | (go_at_call 4; have _t := tok; refine (ha _).mono ?_; rintro e w1 ⟨rfl, b1⟩; clear tok)
      | (go_at_call 4; refine (ha _).mono ?_; rintro e w2 ⟨rfl, b2⟩)
      | fail)
    go_ret
    exact ⟨rfl, b1.trans (b2.mono b1.size)⟩
  have i1 : ¬ (n : Int) > 1200 := by omega
  have i2 : ¬ (vn : Int) > 100 := by omega
  go_enter Try.func3, Try.ntmps3
  go_wp2_with (first
    | (go_at_call 4; refine (ha _).mono ?_; rintro e w1 ⟨rfl, b1⟩)
    | fail)
  go_loopw [25] (fun ix wr => ∃ (j : Nat), j ≤ n ∧ ix = .int .i64 (j : Int) ∧ Below w.heap.size w wr) (fun ix _ => n - (RowKit.intOf ix).toNat)
  case atStart => exact ⟨0, Nat.zero_le _, rfl, b1⟩
  case round =>
    obtain ⟨j, hj, rfl, hb⟩ := hrel
    clear b1
    by_cases hlt : j < n
    · have hjl : j < c.length := by rw [← HN.out]; exact hlt
      obtain ⟨g, off, cs, rfl, _, hgl, _, hcs, hcl⟩ := HL.out j hjl
      have c0 := hcl 0 (.string (c[j]).1) (by rw [hcs]; rfl)
      rw [Nat.add_zero] at c0
      have C0 := (hb.cell (p := ⟨g, off + j * 2, none⟩) hgl).trans c0
      obtain ⟨xs, hxs⟩ : ∃ x, (c[j]).1 = x := ⟨_, rfl⟩
      rw [hxs] at C0
      have k1 : (j : Int) < (n : Int) := by omega
      have k2 : (0 : Int) ≤ (j : Int) := by omega
      clear c0 hxs hcl hcs
      by_cases hx : (xs.size : Int) > 1000
      · go_wp2
        go_ret
        exact ⟨rfl, hb⟩
      · go_wp2
        go_roundw
        case rel => exact ⟨j + 1, hlt, by go_num, hb⟩
        case measure => simp [RowKit.intOf]; omega
    · have k1 : ¬ (j : Int) < (n : Int) := by omega
      have hk : ∀ w1, Below w.heap.size w w1 → RdK (fun b => b < w.heap.size) w1 2 rIns c (.slice a n cap) := fun w1 b => HC.out.keep (fun _ _ _ h => h) (fun b' _ hlb => ⟨hlb, b.block b' hlb⟩)
      have hkv : ∀ w1, Below w.heap.size w w1 → RdK (fun b => b < w.heap.size) w1 1 rI64 vs (.slice va vn vc) := fun w1 b => HV.out.keep (fun _ _ _ h => h) (fun b' _ hlb => ⟨hlb, b.block b' hlb⟩)
      have hcl : c.length ≤ 4000 := by rw [← HN.out]; omega
      have ht := theirCode_any (hk _ hb) hcl
      obtain ⟨R, hR⟩ : ∃ R, runI vs c = R := ⟨_, rfl⟩
      have hp := fun w1 v (h : RdK (fun b => wr.heap.size ≤ b) w1 2 rIns c v) (b : Below w.heap.size w w1) => irun_any h (hkv _ b) hcl
      have hd := fun w1 (b : Below w.heap.size w w1) => jrun_any (hk _ b) (hkv _ b) hcl
      simp only [hR] at hp hd
      obtain ⟨x, y⟩ := R
      clear HC HV HN HL hk hkv hcl hR ha
      go_wp2_with (first
        | (go_at_call 6; refine ht.mono ?_; rintro e w2 ⟨v, rfl, hv2, b2⟩; have hb2 := hb.trans (b2.mono hb.size); obtain ⟨va2, vc2, rfl, _, _⟩ := hv2.form; have hp2 := hp _ _ hv2 hb2; clear hp)
        | (go_at_call 5; refine hp2.mono ?_; rintro e w3 ⟨rfl, b3⟩; have hb3 := hb2.trans (b3.mono hb2.size); have hd3 := hd _ hb3; clear hd)
        | (go_at_call 7; refine hd3.mono ?_; rintro e w4 ⟨rfl, b4⟩; have hb4 := hb3.trans (b4.mono hb3.size))
        | fail)
      go_ret
      exact ⟨rfl, hb4⟩
end Go.Proofs.Ytkahphofmppnkaa

/- An argument that is a slice of bytes, opened: the bytes that it reads as, each from 0 to 255, and their number within the form's reach. -/
namespace Go.Proofs.Ytkahphofmppnkaa
open Go.ChangeShapes Go.WideShapes Go.ChangeAt Go.RowKit

end Go.Proofs.Ytkahphofmppnkaa

/- Arguments that are rows of nodes, opened. -/
namespace Go.Proofs.Ytkahphofmppnkaa
open Go.ChangeShapes Go.WideShapes Go.ChangeAt Go.RowKit
set_option linter.unusedSimpArgs false
set_option linter.unusedVariables false
theorem spotN {w : World} {a : Addr} {v : Value} (h : w.cell? (a.add 0) = some v) : a = ⟨a.block, a.off, none⟩ := by
  rw [show a.add 0 = a from by simp [Addr.add]] at h
  unfold World.cell? at h
  split at h
  · obtain ⟨b, o, s⟩ := a
    cases s with
    | none => rfl
    | some x => simp at h
  · cases h
theorem open_i64s {H : Type} {enc : TypeId × Value → H} {W : World} {a : Option Addr} {len cap : Nat} {d : DataW H} {p : List MemPlace}
    (h : DataW.Trod enc Try.prog W 0 (fun _ => true) true 23 (.slice a len cap) d p) : ∃ l, RdK (fun _ => True) W 1 rI64 l (.slice a len cap) := by
  obtain ⟨fuel, hf⟩ := h
  have hc : Try.prog.cellsOf 2 = 1 := by kernel_rfl
  rcases Go.Deep.open_slice Try.underlying23 hf with ⟨hcs, hx⟩ | ⟨x, l, c, m, n, D, Pl, hcs, _, hl, hm, hmc, hx, hel⟩
  · simp [Value.cells] at hcs
    obtain ⟨rfl, rfl, rfl⟩ := hcs
    exact ⟨[], rdK_none _ _ _ _⟩
  · simp [Value.cells] at hcs
    obtain ⟨rfl, rfl, rfl⟩ := hcs
    have hmc' : m = cap := by simpa using hmc
    rw [hc] at hel
    have hall : ∀ i, i < len → ∃ y : Int, W.cells? 0 (x.add (i * 1)) 1 = some [.int .i64 y] := by
      intro i hi
      obtain ⟨cs', h1, h2⟩ := hel i (by omega)
      obtain ⟨y, rfl, _⟩ := DataW.trod_int Try.underlying2 h2
      exact ⟨y, h1⟩
    obtain ⟨f, hfy⟩ := Go.Deep.choose_lt (α := Int) hall
    refine ⟨(List.range len).map f, some x, cap, by simp, by simp; omega, hm, fun i hi => ?_⟩
    have hi' : i < len := by simpa using hi
    obtain ⟨_, _, h0⟩ := World.cells?_some (hfy 0 (by omega))
    obtain ⟨_, _, hcell⟩ := World.cells?_some (hfy i hi')
    have hs : x = ⟨x.block, x.off, none⟩ := by
      have := h0 0 (by omega)
      rw [Nat.zero_mul, show (x.add 0).add 0 = x.add 0 from by simp [Addr.add]] at this
      exact spotN this
    generalize x.block = b at hs
    generalize x.off = off at hs
    subst hs
    have hg : ∀ j u, [Value.int .i64 (f i)][j]? = some u → W.cell? ⟨b, off + i * 1 + j, none⟩ = some u := fun j u hj => by
      have hj1 : j < 1 := by
        have := (List.getElem?_eq_some_iff.1 hj).1
        simpa using this
      have := hcell j hj1
      rw [hj] at this
      rw [add_plain, add_plain] at this
      exact this
    simp only [List.getElem_map, List.getElem_range]
    exact ⟨b, off, [.int .i64 (f i)], rfl, trivial, World.block_lt_of_cell? W _ (hg 0 _ rfl), rfl, rfl, hg⟩
set_option maxRecDepth 100000 in
theorem open_instr {H : Type} {enc : TypeId × Value → H} {W : World} {fuel : Nat} {cs : List Value} {x : DataW H × List MemPlace}
    (h : DataW.trod enc Try.prog W 0 (fun _ => true) true fuel 26 cs = some x) : ∃ y : In2, cs = [.string y.1, .int .i64 y.2] := by
  obtain ⟨xs, n, _, rfl, hl, hlen, hf⟩ := DataW.trod_struct Try.underlying26 h
  have hc : Try.prog.cellsOf 26 = 2 := by kernel_rfl
  have cL : Try.prog.cellsOf 2 = 1 := by kernel_rfl
  have c9 : Try.prog.cellsOf 9 = 1 := by kernel_rfl
  rw [hc] at hl
  have f0 : DataW.trod enc Try.prog W 0 (fun _ => true) true n 9 ((cs.drop 0).take (Try.prog.cellsOf 9)) = xs[0]? := hf 0 _ rfl
  have f1 : DataW.trod enc Try.prog W 0 (fun _ => true) true n 2 ((cs.drop 1).take (Try.prog.cellsOf 2)) = xs[1]? := hf 1 _ rfl
  rw [c9] at f0
  rw [cL] at f1
  match cs, hl, xs, hlen with
  | [a, b], _, [y0, y1], _ =>
    simp only [List.drop_zero, List.take_succ_cons, List.take_zero, List.drop_succ_cons, List.getElem?_cons_zero, List.getElem?_cons_succ] at f0 f1
    obtain ⟨s, e0, rfl, _⟩ := DataW.trod_string Try.underlying9 f0
    obtain ⟨n, e1, rfl, _⟩ := DataW.trod_int Try.underlying2 f1
    simp only [List.cons.injEq, and_true] at e0 e1
    subst e0 e1
    exact ⟨(s, n), rfl⟩
theorem open_instrs {H : Type} {enc : TypeId × Value → H} {W : World} {a : Option Addr} {len cap : Nat} {d : DataW H} {p : List MemPlace}
    (h : DataW.Trod enc Try.prog W 0 (fun _ => true) true 22 (.slice a len cap) d p) : ∃ l, RdK (fun _ => True) W 2 rIns l (.slice a len cap) := by
  obtain ⟨fuel, hf⟩ := h
  have hc : Try.prog.cellsOf 26 = 2 := by kernel_rfl
  rcases Go.Deep.open_slice Try.underlying22 hf with ⟨hcs, hx⟩ | ⟨x, l, c, m, n, D, Pl, hcs, _, hl, hm, hmc, hx, hel⟩
  · simp [Value.cells] at hcs
    obtain ⟨rfl, rfl, rfl⟩ := hcs
    exact ⟨[], rdK_none _ _ _ _⟩
  · simp [Value.cells] at hcs
    obtain ⟨rfl, rfl, rfl⟩ := hcs
    have hmc' : m = cap := by simpa using hmc
    rw [hc] at hel
    have hall : ∀ i, i < len → ∃ y : In2, W.cells? 0 (x.add (i * 2)) 2 = some [.string y.1, .int .i64 y.2] := by
      intro i hi
      obtain ⟨cs', h1, h2⟩ := hel i (by omega)
      obtain ⟨y, rfl⟩ := open_instr h2
      exact ⟨y, h1⟩
    obtain ⟨f, hfy⟩ := Go.Deep.choose_lt (α := In2) hall
    refine ⟨(List.range len).map f, some x, cap, by simp, by simp; omega, hm, fun i hi => ?_⟩
    have hi' : i < len := by simpa using hi
    obtain ⟨_, _, h0⟩ := World.cells?_some (hfy 0 (by omega))
    obtain ⟨_, _, hcell⟩ := World.cells?_some (hfy i hi')
    have hs : x = ⟨x.block, x.off, none⟩ := by
      have := h0 0 (by omega)
      rw [Nat.zero_mul, show (x.add 0).add 0 = x.add 0 from by simp [Addr.add]] at this
      exact spotN this
    generalize x.block = b at hs
    generalize x.off = off at hs
    subst hs
    have hg : ∀ j u, [Value.string (f i).1, Value.int .i64 (f i).2][j]? = some u → W.cell? ⟨b, off + i * 2 + j, none⟩ = some u := fun j u hj => by
      have hj1 : j < 2 := by
        have := (List.getElem?_eq_some_iff.1 hj).1
        simpa using this
      have := hcell j hj1
      rw [hj] at this
      rw [add_plain, add_plain] at this
      exact this
    simp only [List.getElem_map, List.getElem_range]
    exact ⟨b, off, [.string (f i).1, .int .i64 (f i).2], rfl, trivial, World.block_lt_of_cell? W _ (hg 0 _ rfl), rfl, rfl, hg⟩
end Go.Proofs.Ytkahphofmppnkaa
