import Derived.Test.YtgpgbingmeehdaaXlc05
import Derived.Deep.RegionLaw
import Derived.Test.YtgpgbingmeehdaaXlc04

/- The document's links: Take, Turn. -/
namespace Go.Proofs.Ytgpgbingmeehdaa
open Go.RowKit Go.Lib Go.Maps
set_option linter.unusedSimpArgs false
set_option linter.unusedVariables false
attribute [local go_sem ↓] Go.wp_at_zero Go.wp_at_succ

/-- A row made anew of a link's letters, laid in its place. -/
theorem q_done {w2 w5 : World} {Y : Nat} {H : Nat → Prop} {N : Int} {E : List (L3 Zb)} {u v v5 : Value} {D : List Lk} {g i : Nat} {f t : Int} {Z Z5 : Zb} (q2 : QL w2 Y H N E u) (hE : E.map ml = D) (hi : E[i]? = some (f, t, v, Z)) (hg : u.ownBlock = some g) (b25 : Below w2.heap.size w2 w5)
    (o5 : w5.ownsRow w2.heap.size 29 1 v5 Z5.length (Z5.map (·.1))) (hz : ∀ z ∈ Z5, z ∈ Z) (hH : ∀ j, w2.heap.size ≤ j → H j) : QLM (w5.setCell ⟨g, i * 3 + 2, none⟩ v5) Y H N (D.set i (f, t, Z5.map (·.2))) := by
  have hYl := q2.lt
  have hgl := (ownsRow_lt q2.o g hg).2
  have hRW : RW w5 (fun b => H b ∧ b ≠ Y ∧ u.ownBlock ≠ some b) v5 Z5 := by
    refine own_RW (base := w2.heap.size) (e := 29) o5 (fun z hzz => ?_) (fun k hk => ?_)
    · exact ((q2.s _ (List.mem_of_getElem? hi)).s z (hz z hzz)).stay (fun g hgg hlt => ⟨hgg, b25.block g hlt⟩)
    · have h9 := (ownsRow_lt o5 k hk).1
      refine ⟨hH k h9, by omega, fun e => ?_⟩
      rw [hg] at e
      have := Option.some.inj e
      omega
  have hset := ql_set (q2.on b25) hi hg hRW
  exact ⟨_, u, hset, map_ml_set hE i f t v5 Z5⟩
theorem Z_parts {Z : Zb} {l : List (List Int)} (h : Z.map (·.2) = l) (c : Nat) : (Z.take c ++ Z.drop (c + 1)).map (·.2) = l.take c ++ l.drop (c + 1) := by rw [List.map_append, List.map_take, List.map_drop, h]
theorem mem_parts {Z : Zb} {c d : Nat} {z : Value × List Int} (h : z ∈ Z.take c ++ Z.drop d) : z ∈ Z := by
  rcases List.mem_append.1 h with h | h
  · exact List.mem_of_mem_take h
  · exact List.mem_of_mem_drop h
theorem src_takeZ {w : World} {gz zc c n : Nat} {Z : Zb} {ok : Nat → Prop} (hz4 : ∀ k z, Z[k]? = some z → w.cell? ⟨gz, k, none⟩ = some z.1) (hs : ∀ z ∈ Z, RB w ok z.1 z.2) (hn : Z.length = n) (hc : c ≤ n) : Src Try.prog 1 54 (.slice (some ⟨gz, 0, none⟩) c zc) c ((Z.take c).map (·.1)) w := by
  refine Src.ofSlice w Try.underlying54 _ c zc _ (by simp; omega) (fun j u hj => ?_) (zb_one (fun z hz => hs z (List.mem_of_mem_take hz)))
  rw [List.getElem?_map, List.getElem?_take] at hj
  split at hj
  · cases hq : Z[j]? with
    | none => rw [hq] at hj; cases hj
    | some z =>
      rw [hq] at hj
      obtain rfl := Option.some.inj hj
      rw [add_plain, Nat.zero_add]
      exact hz4 j z hq
  · cases hj
theorem src_dropZ {w : World} {gz zc c m : Nat} {Z : Zb} {A : Addr} {ok : Nat → Prop} (hA : (if zc = c then (some ⟨gz, 0, none⟩ : Option Addr) else some ⟨gz, c, none⟩) = some A) (hz4 : ∀ k z, Z[k]? = some z → w.cell? ⟨gz, k, none⟩ = some z.1) (hs : ∀ z ∈ Z, RB w ok z.1 z.2) (hn : Z.length = c + m) (hc : c + m ≤ zc) (k : Nat) : Src Try.prog 1 54 (.slice (some A) m k) m ((Z.drop c).map (·.1)) w := by
  have h1 := zb_one (Z := Z.drop c) (fun z hz => hs z (List.mem_of_mem_drop hz))
  by_cases he : zc = c
  · have hm : m = 0 := by omega
    subst hm
    have hd : Z.drop c = [] := List.drop_eq_nil_of_le (by omega)
    rw [hd]
    exact Src.ofSlice w Try.underlying54 _ 0 k _ rfl (fun j u hj => by simp at hj) (fun u hu => by simp at hu)
  · rw [if_neg he] at hA
    obtain rfl := Option.some.inj hA
    refine Src.ofSlice w Try.underlying54 _ m k _ (by simp; omega) (fun j u hj => ?_) h1
    rw [List.getElem?_map, List.getElem?_drop] at hj
    cases hq : Z[c + j]? with
    | none => rw [hq] at hj; cases hj
    | some z =>
      rw [hq] at hj
      obtain rfl := Option.some.inj hj
      rw [add_plain]
      exact hz4 (c + j) z hq
theorem row1_form {w : World} {b e n : Nat} {u : Value} {us : List Value} (h : w.ownsRow b e 1 u n us) : ∃ A C, u = .slice A n C ∧ n ≤ C ∧ C ≤ maxLen := by
  rcases h.2 with ⟨h1, h2⟩ | ⟨g, cap, cur, h1, _, _, h3, h4, _⟩
  · exact ⟨none, 0, by rw [h1, h2], by omega, by simp [maxLen]⟩
  · exact ⟨_, _, h1, h3, h4⟩
def tkD (N : Int) (D : List Lk) (f t c : Int) : List Lk := if Pty N f t ∧ inL (gt f t D) c then (fnd f t D).2.set (fnd f t D).1 (f, t, (gt f t D).take c.toNat ++ (gt f t D).drop (c.toNat + 1)) else fnD N D f t
theorem rTake_off {w : World} {Y : Nat} {G : Nat → Prop} {N : Int} {D : List Lk} (h : QLM w Y G N D) (hl : D.length ≤ 900) {f t : Int} (hgl : Pty N f t → (gt f t D).length ≤ 100000) (c : Int) (hn : ¬ (Pty N f t ∧ inL (gt f t D) c)) :
    Calls Try.prog 14 #[.pointer (some ⟨Y, 0, none⟩), .int .i64 f, .int .i64 t, .int .i64 c] w fun e w' => e = .returned (.tuple #[.slice none 0 0, .bool false]) ∧ QLM w' Y (nF G w) N (fnD N D f t) ∧ Kf G w w' := by
  have h1 := rPeek_off h hl hgl c hn
  clear h hn
  go_enter Try.func14, Try.ntmps14
  go_wp2_with (first
    | (go_at_call 16; refine h1.mono ?_; rintro e w1 ⟨rfl, q, k⟩; have HQ := hideL (And.intro q k); clear h1 q k)
    | fail)
  go_ret2
  exact ⟨rfl, HQ.out⟩
set_option maxRecDepth 100000 in
set_option maxHeartbeats 4000000 in
theorem rTake_on {w : World} {Y : Nat} {G : Nat → Prop} {N : Int} {D : List Lk} (h : QLM w Y G N D) (hl : D.length ≤ 800) {f t : Int} (hgl : (gt f t D).length ≤ 1000) (hp : Pty N f t) {c : Nat} {b : List Int} (hc : (gt f t D)[c]? = some b) (hb : b.length ≤ 1000000) :
    Calls Try.prog 14 #[.pointer (some ⟨Y, 0, none⟩), .int .i64 f, .int .i64 t, .int .i64 (c : Int)] w fun e w' => ∃ u, e = .returned (.tuple #[u, .bool true]) ∧ QU w' Y G w N ((fnd f t D).2.set (fnd f t D).1 (f, t, (gt f t D).take c ++ (gt f t D).drop (c + 1))) u b ∧ Kf G w w' := by
  have h1 := rPeek_on h (by omega) (by omega) hp hc hb
  obtain ⟨ha, _, _, hlen⟩ := fnd_at f t D
  generalize hi0 : (fnd f t D).1 = i at *
  generalize hD0 : (fnd f t D).2 = D' at *
  generalize gt f t D = l at *
  have hcl : c < l.length := (List.getElem?_eq_some_iff.1 hc).1
  obtain ⟨m, hm⟩ : ∃ m, l.length = c + 1 + m := ⟨l.length - c - 1, by omega⟩
  have HM := hideL hm
  have HA := hideL ha
  rw [hm] at hgl
  have hF : ∀ w1 u, QU w1 Y G w N D' u b → Kf G w w1 → Calls Try.prog 27 #[.pointer (some ⟨Y, 0, none⟩), .int .i64 f, .int .i64 t] w1 fun e w2 => ∃ g', e = .returned (.pointer (some ⟨g', i * 3, none⟩)) ∧ ∃ H E' u' v Z gz zc, QL w2 Y H N E' u' ∧ u'.ownBlock = some g' ∧ E'.map ml = D' ∧ (∀ j, H j → nF G w j) ∧ RB w2 (fun g => ¬ H g) u b ∧ Kf G w w2 ∧ (∀ j, w2.heap.size ≤ j → H j) ∧
      E'[i]? = some (f, t, v, Z) ∧ Z.map (·.2) = l ∧ v = .slice (some ⟨gz, 0, none⟩) (c + 1 + m) zc ∧ c + 1 + m ≤ zc ∧ zc ≤ maxLen ∧ gz < w2.heap.size ∧ (∀ k z, Z[k]? = some z → w2.cell? ⟨gz, k, none⟩ = some z.1) ∧ w2.cell? ⟨g', i * 3 + 2, none⟩ = some v ∧ w2.frozen? ⟨g', i * 3 + 2, none⟩ = false ∧ g' < w2.heap.size := fun w1 u hq k => by
    obtain ⟨G1, ⟨E, u0, q, hE⟩, hG, hu⟩ := hq
    have hEl : E.length ≤ 1000 := by
      have := congrArg List.length hE
      rw [List.length_map] at this
      omega
    have h2 := rFind_any q hEl hp
    rw [hE, fnd_of HA.out] at h2
    refine h2.mono ?_
    rintro e w2 ⟨g', rfl, ⟨E', u', q2, hg, hE2⟩, k2⟩
    obtain ⟨v, Z, cap, hu', hEi, hZ, c2, f2, hR, hgl2⟩ := QLM.at q2 hE2 hg HA.out
    have hZl : Z.length = c + 1 + m := by
      have := congrArg List.length hZ
      rw [List.length_map, HM.out] at this
      exact this
    rcases hR.f with ⟨_, hZ0⟩ | ⟨gz, zc, hv, hz1, hz2, _, hz3, hz4⟩
    · rw [hZ0] at hZl
      simp at hZl
      omega
    · rw [hZl] at hv hz1
      exact ⟨g', rfl, _, E', u', v, Z, gz, zc, q2, hg, hE2, fun j hj => hj.elim (hG j) (fun e => .inr (Nat.le_trans k.size e)), hu.stay (fun g hgg hlt => ⟨fun e => e.elim hgg (fun e => by omega), k2.block g hlt hgg⟩), k.transN (k2.mono hG), fun j hj => .inr (Nat.le_trans k2.size hj), hEi, hZ, hv, hz1, hz2, hz3, hz4, c2, f2, hgl2⟩
  have HFD := hideL hF
  obtain ⟨j0, hj, hj0, hj1, hj2⟩ := inf_getL Try.infoBy
  have k3 : (0 : Int) ≤ (c : Int) := by omega
  clear h hF hc hm ha hi0 hD0 hcl
  go_enter Try.func14, Try.ntmps14
  go_wp2_with (first
    | (go_at_call 16; refine h1.mono ?_; rintro e w1 ⟨u, rfl, q, k⟩; have h2 := HFD.out w1 u q k; clear h1 q k)
    | (go_at_call 27; refine h2.mono ?_; rintro e w2 ⟨g', rfl, H, E', u', v, Z, gz, zc, q2, hg, hE, hHG, hu, k2, hHn, hEi, hZ, hv, hz1, hz2, hz3, hz4, c2, f2, hgl2⟩; subst hv; have HQ := hideL (And.intro q2 (And.intro hg (And.intro hE (And.intro hHG (And.intro hu (And.intro k2 (And.intro hHn (And.intro hEi (And.intro hZ hz4))))))))); clear h2 q2 hg hE hHG hu k2 hHn hEi hZ hz4)
    | fail)
  have hZl : Z.length = c + 1 + m := by
    have := congrArg List.length HQ.out.2.2.2.2.2.2.2.2.1
    rw [List.length_map, HM.out] at this
    exact this
  obtain ⟨q2, hg, hE, hHG, hu, k2, hHn, hEi, hZ, hz4⟩ := HQ.out
  have hsZ := (q2.s _ (List.mem_of_getElem? hEi)).s
  obtain ⟨xs1, hx1⟩ : ∃ xs : List Value, (Z.take c).map (·.1) = xs := ⟨_, rfl⟩
  obtain ⟨xs2, hx2⟩ : ∃ xs : List Value, (Z.drop (c + 1)).map (·.1) = xs := ⟨_, rfl⟩
  obtain ⟨A, hA⟩ : ∃ A : Addr, (if zc = c + 1 then (some ⟨gz, 0, none⟩ : Option Addr) else some ⟨gz, c + 1, none⟩) = some A := by
    split <;> exact ⟨_, rfl⟩
  have halA : Below w2.heap.size w2 (w2.alloc (.cells #[] 29)).drew := ((Below.refl _ _).alloc (Nat.le_refl _) _).drew
  have hownA : (w2.alloc (.cells #[] 29)).drew.ownsRow w2.heap.size 29 1 (.slice (some ⟨w2.heap.size, 0, none⟩) 0 0) 0 [] := World.ownsRow_made w2 #[] 0 (Nat.le_refl _) (Nat.zero_le _) rfl
  have C1 : (w2.alloc (.cells #[] 29)).drew.cell? ⟨g', i * 3 + 2, none⟩ = some (.slice (some ⟨gz, 0, none⟩) (c + 1 + m) zc) := (halA.cell (p := ⟨g', i * 3 + 2, none⟩) hgl2).trans c2
  have hsAt : ∀ W, Below w2.heap.size w2 W → (∀ k z, Z[k]? = some z → W.cell? ⟨gz, k, none⟩ = some z.1) ∧ ∀ z ∈ Z, RB W (fun _ => True) z.1 z.2 := fun W hb => ⟨fun k z hz => (hb.cell (p := ⟨gz, k, none⟩) hz3).trans (hz4 k z hz), fun z hz => (hsZ z hz).stay (fun g _ hlt => ⟨trivial, hb.block g hlt⟩)⟩
  have hS1 : Src Try.prog 1 54 (.slice (some ⟨gz, 0, none⟩) c zc) c xs1 (w2.alloc (.cells #[] 29)).drew := by
    rw [← hx1]
    exact src_takeZ (hsAt _ halA).1 (hsAt _ halA).2 hZl (by omega)
  have hS2 : ∀ W, Below w2.heap.size w2 W → Src Try.prog 1 54 (.slice (some A) m (zc - (c + 1))) m xs2 W := fun W hb => by
    rw [← hx2]
    exact src_dropZ hA (hsAt W hb).1 (hsAt W hb).2 hZl (by omega) _
  have hDone : ∀ v5 w5, w5.ownsRow w2.heap.size 29 1 v5 (c + m) (xs1 ++ xs2) → Below w2.heap.size w2 w5 → QU (w5.setCell ⟨g', i * 3 + 2, none⟩ v5) Y G w N (D'.set i (f, t, l.take c ++ l.drop (c + 1))) u b ∧ Kf G w (w5.setCell ⟨g', i * 3 + 2, none⟩ v5) ∧ w5.cell? ⟨g', i * 3 + 2, none⟩ = some (.slice (some ⟨gz, 0, none⟩) (c + 1 + m) zc) ∧ w5.frozen? ⟨g', i * 3 + 2, none⟩ = false := fun v5 w5 o5 b25 => by
    have hl5 : (Z.take c ++ Z.drop (c + 1)).length = c + m := by rw [List.length_append, List.length_take, List.length_drop]; omega
    have hm5 : (Z.take c ++ Z.drop (c + 1)).map (·.1) = xs1 ++ xs2 := by rw [List.map_append, hx1, hx2]
    have hq := q_done q2 hE hEi hg b25 (Z5 := Z.take c ++ Z.drop (c + 1)) (by rw [hl5, hm5]; exact o5) (fun z hz => mem_parts hz) hHn
    rw [Z_parts hZ] at hq
    refine ⟨⟨H, hq, hHG, (hu.stay (ok' := fun g => ¬ H g) (fun g hgg hlt => ⟨hgg, b25.block g hlt⟩)).stay (fun g hgg hlt => ⟨hgg, Below.heap_setCell _ _ _ _ (fun e => hgg ?_)⟩)⟩, (k2.trans (Kf.of b25 (Nat.le_refl _))).setN (hHG g' (q2.oo g' hg).1) _, (b25.cell (p := ⟨g', i * 3 + 2, none⟩) hgl2).trans c2, (frozen_of_block (j := i * 3 + 2) (b25.block g' hgl2)).trans f2⟩
    have e' : g = g' := e
    rw [e']
    exact (q2.oo g' hg).1
  have HX := hideL (And.intro hS1 (And.intro hS2 (And.intro hDone (And.intro hownA (show ∀ (wa : World), (w2.alloc (.cells #[] 29)).drew.grownBy wa (Value.slice (some ⟨w2.heap.size, 0, none⟩) 0 0).ownBlock → Below w2.heap.size w2 wa from fun wa hg => halA.grown hg (by show w2.heap.size ≤ (w2.alloc _).heap.size; simp) (fun k hk => by have : w2.heap.size = k := Option.some.inj hk; omega))))))
  obtain ⟨n, hn⟩ : ∃ n, c + 1 + m = n := ⟨_, rfl⟩
  have hm2 : m = n - (c + 1) := by omega
  rw [hn] at c2 C1 hz1 hgl
  rw [hn] at HX
  rw [hm2] at HX
  have hcn : c + (n - (c + 1)) ≤ 1000 := by omega
  have hnm : c + 1 ≤ n := by omega
  have k4 : (c : Int) ≤ (zc : Int) := by omega
  have k5 : (0 : Int) ≤ (c : Int) + 1 := by omega
  have k6 : (c : Int) + 1 ≤ (n : Int) := by omega
  have k7 : (n : Int) ≤ (zc : Int) := by omega
  have w1c : IntKind.i64.wrap ((c : Int) + 1) = (c : Int) + 1 := by rw [IntKind.wrap_i64]; omega
  clear q2 hg hE hHG hu k2 hHn hEi hZ hz4 hsZ hsAt hS1 hS2 hDone hZl hx1 hx2 HQ halA hownA HFD HA HM hn hm2
  go_region_law (first
    | (refine step_append_at _ (by rfl) (.tmp 27) (.tmp 33) 54 54 (by rfl) w2.heap.size 29 j0 (.slice none 0 0) 1 24 Try.underlying54 hj hj0 hj1 hj2 rfl (.slice (some ⟨w2.heap.size, 0, none⟩) 0 0) 0 [] (by rfl) HX.out.2.2.2.1 (.slice (some ⟨gz, 0, none⟩) c zc) c xs1 (by rfl) HX.out.1 c (.inr (by omega)) (Nat.le_refl _) (by unfold maxLen; omega) (by show w2.heap.size ≤ (w2.alloc _).heap.size; simp) ?_; intro v3 w3 o3 g3 a3; have b3 := HX.out.2.2.2.2 w3 g3; have c3 := (b3.cell (p := ⟨g', i * 3 + 2, none⟩) hgl2).trans c2; obtain ⟨sa, sc, hv3, _, _⟩ := row1_form o3; rw [Nat.zero_add] at hv3; rw [Nat.zero_add, List.nil_append] at o3; subst hv3; have HO3 := hideL (And.intro o3 b3); clear o3 g3 a3 b3)
    | (refine step_append_at _ (by rfl) (.tmp 34) (.tmp 41) 54 54 (by rfl) w2.heap.size 29 j0 (.slice none 0 0) 1 24 Try.underlying54 hj hj0 hj1 hj2 rfl (.slice sa c sc) c xs1 (by rfl) HO3.out.1 (.slice (some A) (n - (c + 1)) (zc - (c + 1))) (n - (c + 1)) xs2 (by rfl) (HX.out.2.1 w3 HO3.out.2) (n - (c + 1)) (.inr (by omega)) (Nat.le_refl _) (by unfold maxLen; omega) HO3.out.2.size ?_; intro v5 w5 o5 g5 a5; obtain ⟨r1, r2, c5, f5⟩ := HX.out.2.2.1 v5 w5 o5 (HO3.out.2.grown g5 HO3.out.2.size (fun k hk => (ownsRow_lt HO3.out.1 k hk).1)); obtain ⟨ta, tc, hv5, _, _⟩ := row1_form o5; subst hv5; have HR := hideL (And.intro r1 r2); clear o5 g5 a5 r1 r2 HX)
    | fail)
  all_goals (
    go_wp2
    go_ret2
    exact ⟨_, rfl, HR.out.1, HR.out.2⟩)
theorem rTake_any {w : World} {Y : Nat} {G : Nat → Prop} {N : Int} {D : List Lk} (h : QLM w Y G N D) (hl : D.length ≤ 800) {f t : Int} (hgl : Pty N f t → (gt f t D).length ≤ 1000) (hb : Pty N f t → ∀ b ∈ gt f t D, b.length ≤ 1000000) (c : Int) :
    Calls Try.prog 14 #[.pointer (some ⟨Y, 0, none⟩), .int .i64 f, .int .i64 t, .int .i64 c] w fun e w' => ∃ u, e = .returned (.tuple #[u, .bool (pkD N D f t c).1]) ∧ QU w' Y G w N (tkD N D f t c) u (pkD N D f t c).2 ∧ Kf G w w' := by
  by_cases hi : Pty N f t ∧ inL (gt f t D) c
  · have e : pkD N D f t c = (true, (gt f t D).getD c.toNat []) := if_pos hi
    have e2 : tkD N D f t c = (fnd f t D).2.set (fnd f t D).1 (f, t, (gt f t D).take c.toNat ++ (gt f t D).drop (c.toNat + 1)) := if_pos hi
    rw [e, e2]
    obtain ⟨k, rfl, hk, hk2⟩ := inL_nat hi.2
    rw [Int.toNat_natCast]
    exact rTake_on h hl (hgl hi.1) hi.1 hk2 (hb hi.1 _ (List.mem_of_getElem? hk2))
  · have e : pkD N D f t c = (false, []) := if_neg hi
    have e2 : tkD N D f t c = fnD N D f t := if_neg hi
    rw [e, e2]
    refine (rTake_off h (by omega) (fun hp => by have := hgl hp; omega) c hi).mono ?_
    rintro e w1 ⟨rfl, q, k⟩
    exact ⟨_, rfl, ⟨_, q, fun j hj => hj, rbNil _ _⟩, k⟩

structure OpK where
  kind : Int
  a : Int
  b : Int
  c : Int
  bs : List Int
theorem rd_onL {w w' : World} {v : Value} {b : List Int} (h : Rd w v b) (hb : Below w.heap.size w w') : Rd w' v b := h.below hb (Nat.le_refl _)
def rOk (w : World) : OpK → List Value → Prop := fun x cs => ∃ bv, cs = [.int .i64 x.kind, .int .i64 x.a, .int .i64 x.b, .int .i64 x.c, bv] ∧ Rd w bv x.bs
abbrev RdOk (w : World) (l : List OpK) (v : Value) : Prop := RdK (fun _ => True) w 5 (rOk w) l v
structure WfK (x : OpK) : Prop where
  bs : ∀ b ∈ x.bs, 0 ≤ b ∧ b ≤ 255
  bl : x.bs.length ≤ 140737488351232
theorem rOk_on {w w' : World} {x : OpK} {cs : List Value} (h : rOk w x cs) (hb : Below w.heap.size w w') : rOk w' x cs := by
  obtain ⟨bv, h1, h2⟩ := h
  exact ⟨bv, h1, rd_onL h2 hb⟩
theorem RdOk.on {w w' : World} {l : List OpK} {v : Value} (h : RdOk w l v) (hb : Below w.heap.size w w') : RdOk w' l v := RdK.keep h (fun _ _ _ h => rOk_on h hb) (fun b _ hlt => ⟨trivial, hb.block b hlt⟩)
/-- Few: from call i on, n bytes counted. -/
def fewK : Nat → Nat → List OpK → Bool
  | _, _, [] => true
  | i, n, x :: r => if 300 ≤ i ∨ 20000 < n + x.bs.length then false else fewK (i + 1) (n + x.bs.length) r
def smK (l : List OpK) (j : Nat) : Nat := ((l.take j).map fun x => x.bs.length).sum
theorem smK_succ {l : List OpK} {j : Nat} (h : j < l.length) : smK l (j + 1) = smK l j + (l[j]).bs.length := by
  unfold smK
  rw [List.take_succ_eq_append_getElem h, List.map_append, List.sum_append]
  simp
theorem fewK_at {l : List OpK} {j : Nat} (h : j < l.length) : fewK j (smK l j) (l.drop j) = if 300 ≤ j ∨ 20000 < smK l (j + 1) then false else fewK (j + 1) (smK l (j + 1)) (l.drop (j + 1)) := by
  rw [List.drop_eq_getElem_cons h]
  conv => lhs; unfold fewK
  rw [← smK_succ h]
theorem fewK_all {l : List OpK} (h : fewK 0 0 l = true) : ∀ j, (hj : j < l.length) → j < 300 ∧ smK l (j + 1) ≤ 20000 ∧ fewK (j + 1) (smK l (j + 1)) (l.drop (j + 1)) = true := by
  intro j
  induction j with
  | zero =>
    intro hj
    have e : fewK 0 0 l = fewK 0 (smK l 0) (l.drop 0) := by simp [smK]
    rw [e, fewK_at hj] at h
    split at h
    · cases h
    · rename_i hc
      exact ⟨by omega, by omega, h⟩
  | succ k ih =>
    intro hj
    obtain ⟨_, _, h4⟩ := ih (by omega)
    rw [fewK_at hj] at h4
    split at h4
    · cases h4
    · rename_i hc
      exact ⟨by omega, by omega, h4⟩
theorem fewK_len {l : List OpK} (h : fewK 0 0 l = true) : l.length ≤ 300 := by
  rcases Nat.lt_or_ge 300 l.length with hl | hl
  · have := (fewK_all h 300 hl).1
    omega
  · exact hl
theorem fewK_bytes {l : List OpK} (h : fewK 0 0 l = true) : ∀ x ∈ l, x.bs.length ≤ 20000 := fun x hx => by
  obtain ⟨j, hj, rfl⟩ := List.getElem_of_mem hx
  have h1 := (fewK_all h j hj).2.1
  rw [smK_succ hj] at h1
  omega
set_option maxRecDepth 100000 in
set_option maxHeartbeats 1000000 in
theorem lFew_any {w : World} {l : List OpK} {v : Value} (h : RdOk w l v) (hw : ∀ x ∈ l, WfK x) : Calls Try.prog 8 #[v] w fun e w' => e = .returned (.bool (fewK 0 0 l)) ∧ w = w' := by
  obtain ⟨a, c, rfl, hlc, hcm, hcell⟩ := h
  unfold maxLen at hcm
  obtain ⟨R, hR⟩ : ∃ R, fewK 0 0 l = R := ⟨_, rfl⟩
  rw [hR]
  have HL := hideL hcell
  have HW := hideL hw
  have H0 := hideL (show fewK 0 (smK l 0) (l.drop 0) = R from hR)
  clear hcell hw hR
  go_enter Try.func8, Try.ntmps8
  go_wp2
  go_loopw [3, 7] (fun t ix wr => ∃ (j : Nat), j ≤ l.length ∧ ix = .int .i64 (j : Int) ∧ t = .int .i64 (smK l j : Int) ∧ smK l j ≤ 20000 ∧ w = wr ∧ Hid (fewK j (smK l j) (l.drop j) = R)) (fun _ ix _ => l.length - (RowKit.intOf ix).toNat)
  case atStart => exact ⟨0, Nat.zero_le _, rfl, by simp [smK], by simp [smK], rfl, H0⟩
  case round =>
    obtain ⟨j, hj, rfl, rfl, hsm, rfl, HF⟩ := hrel
    clear H0
    by_cases hlt : j < l.length
    · obtain ⟨b, off, cs, ha, _, hbl, _, ⟨bv, rfl, h4⟩, hcs⟩ := HL.out j hlt
      subst ha
      obtain ⟨ba, bc, rfl, _⟩ := h4
      have c4 := hcs 4 _ rfl
      have hwf := HW.out _ (List.getElem_mem hlt)
      have hfe := HF.out
      rw [fewK_at hlt] at hfe
      have hs1 := smK_succ hlt
      have b1 := hwf.bl
      obtain ⟨bl, hbl'⟩ : ∃ x, (l[j]).bs.length = x := ⟨_, rfl⟩
      rw [hbl'] at c4 hs1 b1
      have k1 : (j : Int) < (l.length : Int) := by omega
      have k2 : (0 : Int) ≤ (j : Int) := by omega
      obtain ⟨s1, hs1'⟩ : ∃ x, smK l (j + 1) = x := ⟨_, rfl⟩
      rw [hs1'] at hfe hs1
      have hwr := hideL (show wrap64 ((smK l j : Int) + (bl : Int)) = (s1 : Int) by unfold wrap64; omega)
      have HFE := hideL hfe
      have HS1 := hideL hs1'
      have HS2 := hideL hs1
      have HSM := hideL hsm
      clear hwf HF hfe hs1' hbl' hcs hbl hs1 hsm b1
      by_cases g1 : 300 ≤ j
      · have i1 : (j : Int) ≥ 300 := by omega
        replace hwr := hwr.out
        go_wp2
        go_ret
        have := HFE.out
        rw [if_pos (.inl g1)] at this
        exact ⟨by rw [← this]; rfl, rfl⟩
      have i1 : ¬ (j : Int) ≥ 300 := by omega
      by_cases g2 : 20000 < s1
      · have i2 : (s1 : Int) > 20000 := by omega
        replace hwr := hwr.out
        go_wp2
        go_ret
        have := HFE.out
        rw [if_pos (.inr g2)] at this
        exact ⟨by rw [← this]; rfl, rfl⟩
      have i2 : ¬ (s1 : Int) > 20000 := by omega
      have HWR := hwr
      replace hwr := hwr.out
      go_wp2
      clear hwr
      go_roundw
      case rel =>
        have h9 := HFE.out
        rw [if_neg (by omega)] at h9
        refine ⟨j + 1, hlt, by go_num, ?_, ?_, ?_, ?_⟩
        · rw [HS1.out, HWR.out]
        · rw [HS1.out]
          omega
        · first | rfl | trivial
        · rw [HS1.out]
          exact h9
      case measure => simp [RowKit.intOf]; omega
    · have k1 : ¬ (j : Int) < (l.length : Int) := by omega
      have hR := HF.out
      have e : l.drop j = [] := List.drop_eq_nil_of_le (by omega)
      rw [e] at hR
      have hR2 : true = R := by rw [← hR]; rfl
      subst hR2
      clear HL HW HF hR e
      go_wp2
      go_ret
      exact ⟨rfl, rfl⟩
theorem snd_awake : sndL (ptN 2) [] 0 1 [120] = (0, [(0, 1, [120])]) := by
  unfold sndL addL
  rw [if_pos (by unfold Pty ptN; omega), if_neg (by simp)]
  rfl
set_option maxHeartbeats 1000000 in
theorem lAwake_any (w : World) : Calls Try.prog 7 #[] w fun e w' => e = .returned (.bool true) ∧ Below w.heap.size w w' := by
  have h1 := lNew_any w 2
  go_enter Try.func7, Try.ntmps7
  go_wp2_with (first
    | (go_at_call 9; refine h1.mono ?_; rintro e w1 ⟨rfl, p1, b1⟩; have hcv := conv_const w1 #[.int .u8 120] 1 1; have hb := (Below.refl w1.heap.size w1).alloc (Nat.le_refl _) (.cells #[.int .u8 120] 5 (1, 2)); have h2 := lSend_any (p1.on hb) 0 1 (rd_const w1 [120] (by simp [maxLen]) (1, 2)) (by simp); rw [snd_awake] at h2; have HP := hideL (And.intro b1 hb); clear h1 p1 b1 hb)
    | (go_at_call 11; refine h2.mono ?_; rintro e w2 ⟨rfl, p2, k2⟩; have h3 := lTotal_any p2; have HK := hideL k2; clear h2 p2 k2)
    | (go_at_call 21; refine h3.mono ?_; rintro e w3 ⟨rfl, rfl⟩; clear h3)
    | fail)
  obtain ⟨b1, hb⟩ := HP.out
  go_ret
  exact ⟨rfl, (b1.trans (hb.mono b1.size)).trans (HK.out.below (fun j hj => by omega) (Nat.le_trans b1.size hb.size))⟩

theorem fd_in {f t c : Int} {L : LtL} (h0 : 0 ≤ c) (h1 : c < ((sel f t L).length : Int)) : ∃ i, fd f t c 0 0 L = some i ∧ (tkL f t c L).length + 1 = L.length ∧ (sel f t (tkL f t c L)).length + 1 = (sel f t L).length := by
  rcases fd_spec f t c L 0 0 with ⟨i, k, x, h2, h3, h4, h5, h6, h7, h8, h9⟩ | ⟨_, h2⟩
  · rw [Nat.zero_add] at h2
    have e : tkL f t c L = L.take i ++ L.drop (i + 1) := by unfold tkL; rw [h2]
    have hk : k < (sel f t L).length := (List.getElem?_eq_some_iff.1 h8).1
    refine ⟨i, h2, ?_, ?_⟩
    · rw [e, List.length_append, List.length_take, List.length_drop]
      omega
    · rw [e, h9, List.length_append, List.length_take, List.length_drop]
      omega
  · omega
theorem mem_tkL {f t c : Int} {L : LtL} {x : Int × Int × List Int} (h : x ∈ tkL f t c L) : x ∈ L := by
  unfold tkL at h
  split at h
  · rcases List.mem_append.1 h with h | h
    · exact List.mem_of_mem_take h
    · exact List.mem_of_mem_drop h
  · exact h
/-- The links are in blocks from w0 on. -/
def KF (w0 : World) (X : Nat) (w : World) (L : LtL) : Prop := (∃ F, PLM w X F 5 L ∧ ∀ j, F j → w0.heap.size ≤ j) ∧ Below w0.heap.size w0 w
theorem KF.of {w0 w w' : World} {X : Nat} {F : Nat → Prop} {L' : LtL} (hF : ∀ j, F j → w0.heap.size ≤ j) (hb : Below w0.heap.size w0 w) (p : PLM w' X (nF F w) 5 L') (k : Kf F w w') : KF w0 X w' L' :=
  ⟨⟨_, p, fun j hj => hj.elim (hF j) (fun e => Nat.le_trans hb.size e)⟩, hb.trans (k.below hF hb.size)⟩
theorem KF.send {w0 w : World} {X : Nat} {L : LtL} (h : KF w0 X w L) (f t : Int) {u : Value} {b : List Int} (hu : Rd w0 u b) (hb : b.length ≤ 1000000) {e : Int} {L' : LtL} (he : sndL 5 L f t b = (e, L')) :
    Calls Try.prog 11 #[.pointer (some ⟨X, 0, none⟩), .int .i64 f, .int .i64 t, u] w fun r w' => r = .returned (.int .i64 e) ∧ KF w0 X w' L' := by
  obtain ⟨⟨F, p, hF⟩, hbl⟩ := h
  have := lSend_any p f t (rd_onL hu hbl) hb
  rw [he] at this
  refine this.mono ?_
  rintro r w1 ⟨rfl, p1, k1⟩
  exact ⟨rfl, KF.of hF hbl p1 k1⟩
theorem KF.take {w0 w : World} {X : Nat} {L : LtL} (h : KF w0 X w L) (hl : L.length ≤ 1000) (f t c : Int) :
    Calls Try.prog 13 #[.pointer (some ⟨X, 0, none⟩), .int .i64 f, .int .i64 t, .int .i64 c] w fun r w' => ∃ u, r = .returned (.tuple #[u, .bool (fd f t c 0 0 L).isSome]) ∧ KF w0 X w' (tkL f t c L) := by
  obtain ⟨⟨F, p, hF⟩, hbl⟩ := h
  refine (lTake_any p hl f t c).mono ?_
  rintro r w1 ⟨u, rfl, _, p1, k1⟩
  exact ⟨u, rfl, KF.of hF hbl p1.wide k1⟩
end Go.Proofs.Ytgpgbingmeehdaa

/- Both links side by side; Count, Send, Take, Peek, Double on both. -/
namespace Go.Proofs.Ytgpgbingmeehdaa
open Go.RowKit Go.Lib Go.Maps
set_option linter.unusedSimpArgs false
set_option linter.unusedVariables false

def trD (N : Int) (D : List Lk) (f t : Int) : Bool × List Lk :=
  if Pty N f t then (if 2 ≤ (gt f t D).length then (true, (fnd f t D).2.set (fnd f t D).1 (f, t, (gt f t D).drop 1 ++ [(gt f t D).getD 0 []])) else (false, (fnd f t D).2)) else (false, D)
/-- The program's links L and the document's D, in blocks apart, from w0 on. -/
structure TL (w0 w : World) (X Y : Nat) (F G : Nat → Prop) (N : Int) (L : LtL) (D : List Lk) : Prop where
  p : PLM w X F N L
  q : QLM w Y G N D
  f : ∀ j, F j → w0.heap.size ≤ j ∧ j < w.heap.size
  g : ∀ j, G j → w0.heap.size ≤ j ∧ j < w.heap.size
  d : ∀ j, F j → ¬ G j
  a : Below w0.heap.size w0 w
/-- What F has become. -/
def cL (F : Nat → Prop) (w w' : World) : Nat → Prop := fun j => nF F w j ∧ j < w'.heap.size
theorem TL.stepP {w0 w w' : World} {X Y : Nat} {F G : Nat → Prop} {N : Int} {L L' : LtL} {D : List Lk} (h : TL w0 w X Y F G N L D) (hp : PLM w' X (nF F w) N L') (hk : Kf F w w') : TL w0 w' X Y (cL F w w') G N L' D := by
  refine ⟨hp.keep (fun _ _ _ => rfl) (fun j hj hf => ⟨hf, hj⟩) (Nat.le_refl _), h.q.keep (fun b hb hlt => hk.block b hlt (fun e => h.d b e hb)) (fun _ _ h => h), fun j hj => ?_, fun j hj => ⟨(h.g j hj).1, Nat.lt_of_lt_of_le (h.g j hj).2 hk.size⟩, fun j hj hg => ?_, h.a.trans (hk.below (fun j hj => (h.f j hj).1) h.a.size)⟩
  · obtain ⟨hj | hj, hl⟩ := hj
    · exact ⟨(h.f j hj).1, hl⟩
    · exact ⟨Nat.le_trans h.a.size hj, hl⟩
  · obtain ⟨hj | hj, hl⟩ := hj
    · exact h.d j hj hg
    · have := (h.g j hg).2
      omega
theorem TL.stepQ {w0 w w' : World} {X Y : Nat} {F G : Nat → Prop} {N : Int} {L : LtL} {D D' : List Lk} (h : TL w0 w X Y F G N L D) (hq : QLM w' Y (nF G w) N D') (hk : Kf G w w') : TL w0 w' X Y F (cL G w w') N L D' := by
  refine ⟨h.p.keep (fun b hb hlt => hk.block b hlt (fun e => h.d b hb e)) (fun _ _ h => h) hk.size, hq.keep (fun _ _ _ => rfl) (fun j hj hf => ⟨hf, hj⟩), fun j hj => ⟨(h.f j hj).1, Nat.lt_of_lt_of_le (h.f j hj).2 hk.size⟩, fun j hj => ?_, fun j hf hj => ?_, h.a.trans (hk.below (fun j hj => (h.g j hj).1) h.a.size)⟩
  · obtain ⟨hj | hj, hl⟩ := hj
    · exact ⟨(h.g j hj).1, hl⟩
    · exact ⟨Nat.le_trans h.a.size hj, hl⟩
  · obtain ⟨hj | hj, hl⟩ := hj
    · exact h.d j hf hj
    · have := (h.f j hf).2
      omega
theorem TL.on {w0 w w' : World} {X Y : Nat} {F G : Nat → Prop} {N : Int} {L : LtL} {D : List Lk} (h : TL w0 w X Y F G N L D) (hb : Below w.heap.size w w') : TL w0 w' X Y F G N L D :=
  ⟨h.p.on hb, h.q.on hb, fun j hj => ⟨(h.f j hj).1, Nat.lt_of_lt_of_le (h.f j hj).2 hb.size⟩, fun j hj => ⟨(h.g j hj).1, Nat.lt_of_lt_of_le (h.g j hj).2 hb.size⟩, h.d, h.a.trans (hb.mono h.a.size)⟩
/-- What both hold: the same, of a size. -/
structure Sz (N : Int) (L : LtL) (D : List Lk) (j : Nat) : Prop where
  i : LInv N L D
  l : L.length ≤ 100
  d : D.length ≤ 2 * j
  b : ∀ x ∈ L, x.2.2.length ≤ 20000
theorem sel_mem {f t : Int} {L : LtL} {b : List Int} (h : b ∈ sel f t L) : ∃ x ∈ L, x.2.2 = b := by
  induction L with
  | nil => simp [sel] at h
  | cons x r ih =>
    rw [sel_cons] at h
    split at h
    · rcases List.mem_cons.1 h with h | h
      · exact ⟨x, by simp, h.symm⟩
      · obtain ⟨y, hy, e⟩ := ih h
        exact ⟨y, by simp [hy], e⟩
    · obtain ⟨y, hy, e⟩ := ih h
      exact ⟨y, by simp [hy], e⟩
theorem Sz.gt {N : Int} {L : LtL} {D : List Lk} {j : Nat} (h : Sz N L D j) {f t : Int} (hp : Pty N f t) : (gt f t D).length ≤ 100 ∧ ∀ b ∈ gt f t D, b.length ≤ 20000 := by
  rw [← h.i.s f t hp]
  refine ⟨Nat.le_trans (sel_len f t L) h.l, fun b hb => ?_⟩
  obtain ⟨x, hx, e⟩ := sel_mem hb
  rw [← e]
  exact h.b x hx
theorem Sz.tot {N : Int} {L : LtL} {D : List Lk} {j : Nat} (h : Sz N L D j) : tot D = L.length := h.i.c
theorem Sz.fn {N : Int} {L : LtL} {D : List Lk} {j : Nat} (h : Sz N L D j) (f t : Int) : LInv N L (fnD N D f t) ∧ (fnD N D f t).length ≤ D.length + 1 := by
  unfold fnD
  split
  · exact ⟨h.i.find f t, (fnd_at f t D).2.2.2⟩
  · exact ⟨h.i, Nat.le_succ _⟩
/-- Count: both tell the same. -/
theorem Sz.cnt {N : Int} {L : LtL} {D : List Lk} {j : Nat} (h : Sz N L D j) (f t : Int) : ((sel f t L).length : Int) = if Pty N f t then ((Go.Proofs.Ytgpgbingmeehdaa.gt f t D).length : Int) else 0 := by
  split
  · rename_i hp
    rw [h.i.s f t hp]
  · rename_i hp
    rw [h.i.none hp]
    rfl
theorem Sz.send {N : Int} {L : LtL} {D : List Lk} {j : Nat} (h : Sz N L D j) (f t : Int) {b : List Int} (hb : b.length ≤ 20000) : (sndL N L f t b).1 = (sndD N D f t b).1 ∧ LInv N (sndL N L f t b).2 (sndD N D f t b).2 ∧ (sndL N L f t b).2.length ≤ 100 ∧ (sndD N D f t b).2.length ≤ D.length + 1 ∧ ∀ x ∈ (sndL N L f t b).2, x.2.2.length ≤ 20000 := by
  unfold sndL sndD addL
  by_cases hp : Pty N f t
  · rw [if_pos hp, if_pos hp, h.tot]
    obtain ⟨ha, h2, h3, h4⟩ := fnd_at f t D
    by_cases hl : 100 ≤ L.length
    · rw [if_pos hl, if_pos hl]
      exact ⟨rfl, h.i.find f t, h.l, h4, h.b⟩
    · rw [if_neg hl, if_neg hl]
      refine ⟨rfl, (h.i.find f t).send hp ha b, by rw [List.length_append, List.length_singleton]; omega, by rw [List.length_set]; exact h4, fun x hx => ?_⟩
      rcases List.mem_append.1 hx with hx | hx
      · exact h.b x hx
      · rw [List.mem_singleton.1 hx]
        exact hb
  · rw [if_neg hp, if_neg hp]
    exact ⟨rfl, h.i, h.l, Nat.le_succ _, h.b⟩
/-- A letter's place: both find it, or neither does. -/
theorem Sz.pk {N : Int} {L : LtL} {D : List Lk} {j : Nat} (h : Sz N L D j) (f t c : Int) : (fd f t c 0 0 L).isSome = (pkD N D f t c).1 ∧ pkL f t c L = (pkD N D f t c).2 ∧ (pkL f t c L).length ≤ 20000 ∧
    (∀ i, fd f t c 0 0 L = some i → Pty N f t ∧ inL (Go.Proofs.Ytgpgbingmeehdaa.gt f t D) c ∧ ∃ k x, c = ((k : Nat) : Int) ∧ i < L.length ∧ L[i]? = some x ∧ x.1 = f ∧ x.2.1 = t ∧ k < (Go.Proofs.Ytgpgbingmeehdaa.gt f t D).length ∧ sel f t (L.take i ++ L.drop (i + 1)) = (sel f t L).take k ++ (sel f t L).drop (k + 1)) := by
  rcases fd_spec f t c L 0 0 with ⟨i, k, x, h1, h2, h3, h4, h5, h6, h7, h8⟩ | ⟨h1, h2⟩
  · rw [Nat.zero_add] at h1 h2
    have hp : Pty N f t := by
      have := h.i.p x (List.mem_of_getElem? h4)
      rw [h5, h6] at this
      exact this
    have hs := h.i.s f t hp
    rw [hs] at h7
    have hk : k < (Go.Proofs.Ytgpgbingmeehdaa.gt f t D).length := (List.getElem?_eq_some_iff.1 h7).1
    have hi : inL (Go.Proofs.Ytgpgbingmeehdaa.gt f t D) c := by unfold inL; omega
    have e1 : pkD N D f t c = (true, (Go.Proofs.Ytgpgbingmeehdaa.gt f t D).getD c.toNat []) := if_pos ⟨hp, hi⟩
    have e2 : pkL f t c L = x.2.2 := by unfold pkL; rw [h1]; simp [h4]
    refine ⟨by rw [h1, e1]; rfl, ?_, by rw [e2]; exact h.b x (List.mem_of_getElem? h4), fun i' hi' => ?_⟩
    · rw [e1, e2, h2]
      simp [List.getD, h7]
    · rw [h1] at hi'
      obtain rfl := Option.some.inj hi'
      exact ⟨hp, hi, k, x, h2, h3, h4, h5, h6, hk, h8⟩
  · have hn : ¬ (Pty N f t ∧ inL (Go.Proofs.Ytgpgbingmeehdaa.gt f t D) c) := fun e => by
      have hs := h.i.s f t e.1
      have := e.2
      unfold inL at this
      rw [← hs] at this
      omega
    have e1 : pkD N D f t c = (false, []) := if_neg hn
    have e2 : pkL f t c L = [] := by unfold pkL; rw [h1]
    refine ⟨by rw [h1, e1]; rfl, by rw [e1, e2], by rw [e2]; simp, fun i' hi' => ?_⟩
    rw [h1] at hi'
    cases hi'
theorem Sz.take {N : Int} {L : LtL} {D : List Lk} {j : Nat} (h : Sz N L D j) (f t c : Int) : LInv N (tkL f t c L) (tkD N D f t c) ∧ (tkL f t c L).length ≤ L.length ∧ (tkD N D f t c).length ≤ D.length + 1 ∧ ∀ x ∈ tkL f t c L, x.2.2.length ≤ 20000 := by
  obtain ⟨q1, q2, q3, q4⟩ := h.pk f t c
  cases hf : fd f t c 0 0 L with
  | none =>
    have e2 : tkL f t c L = L := by unfold tkL; rw [hf]
    have hn : ¬ (Pty N f t ∧ inL (Go.Proofs.Ytgpgbingmeehdaa.gt f t D) c) := fun e => by
      have e1 : pkD N D f t c = (true, (Go.Proofs.Ytgpgbingmeehdaa.gt f t D).getD c.toNat []) := if_pos e
      rw [hf, e1] at q1
      cases q1
    have e3 : tkD N D f t c = fnD N D f t := if_neg hn
    rw [e2, e3]
    exact ⟨(h.fn f t).1, Nat.le_refl _, (h.fn f t).2, h.b⟩
  | some i =>
    obtain ⟨hp, hi, k, x, hc, hil, hx, h1, h2, hk, hs⟩ := q4 i hf
    have e2 : tkL f t c L = L.take i ++ L.drop (i + 1) := by unfold tkL; rw [hf]
    have e3 : tkD N D f t c = (fnd f t D).2.set (fnd f t D).1 (f, t, (Go.Proofs.Ytgpgbingmeehdaa.gt f t D).take c.toNat ++ (Go.Proofs.Ytgpgbingmeehdaa.gt f t D).drop (c.toNat + 1)) := if_pos ⟨hp, hi⟩
    obtain ⟨ha, _, _, hl⟩ := fnd_at f t D
    subst hc
    rw [Int.toNat_natCast] at e3
    rw [e3]
    refine ⟨by rw [e2]; exact (h.i.find f t).take ha hil hx h1 h2 hk hs, by rw [e2, List.length_append, List.length_take, List.length_drop]; omega, by rw [List.length_set]; exact hl, fun y hy => h.b y (mem_tkL hy)⟩
theorem Sz.dbl {N : Int} {L : LtL} {D : List Lk} {j : Nat} (h : Sz N L D j) (f t c : Int) : (dbL f t c L).1 = (dbD N D f t c).1 ∧ LInv N (dbL f t c L).2 (dbD N D f t c).2 ∧ (dbL f t c L).2.length ≤ 100 ∧ (dbD N D f t c).2.length ≤ D.length + 1 ∧ ∀ x ∈ (dbL f t c L).2, x.2.2.length ≤ 20000 := by
  obtain ⟨q1, q2, q3, q4⟩ := h.pk f t c
  obtain ⟨f1, f2⟩ := h.fn f t
  unfold dbD
  rw [← q1, ← q2]
  cases hf : fd f t c 0 0 L with
  | none =>
    have e : dbL f t c L = (5, L) := by unfold dbL; rw [hf]
    rw [e, if_neg (by simp)]
    exact ⟨rfl, f1, h.l, f2, h.b⟩
  | some i =>
    have e : dbL f t c L = addL L f t (pkL f t c L) := by unfold dbL; rw [hf]
    obtain ⟨hp, _⟩ := q4 i hf
    rw [e, if_pos (show (some i).isSome = true from rfl)]
    have hs : Sz N L (fnD N D f t) (j + 1) := ⟨f1, h.l, by have := h.d; omega, h.b⟩
    obtain ⟨s1, s2, s3, s4, s5⟩ := hs.send f t (b := pkL f t c L) q3
    have e2 : sndL N L f t (pkL f t c L) = addL L f t (pkL f t c L) := if_pos hp
    rw [e2] at s1 s2 s3 s5
    refine ⟨s1, s2, s3, ?_, s5⟩
    have e3 : fnD N D f t = (fnd f t D).2 := fnD_on hp
    obtain ⟨ha, _, _, hl⟩ := fnd_at f t D
    have e4 : fnd f t (fnd f t D).2 = ((fnd f t D).1, (fnd f t D).2) := fnd_of ha
    rw [e3]
    unfold sndD
    rw [if_pos hp, e4]
    split
    · exact hl
    · rw [List.length_set]
      exact hl
theorem Sz.turn {N : Int} {L : LtL} {D : List Lk} {j : Nat} (h : Sz N L D j) (f t : Int) : decide (2 ≤ (sel f t L).length) = (trD N D f t).1 ∧ LInv N (if 2 ≤ (sel f t L).length then trL f t L else L) (trD N D f t).2 ∧ (if 2 ≤ (sel f t L).length then trL f t L else L).length ≤ 100 ∧ (trD N D f t).2.length ≤ D.length + 1 ∧ ∀ x ∈ (if 2 ≤ (sel f t L).length then trL f t L else L), x.2.2.length ≤ 20000 := by
  unfold trD
  by_cases hp : Pty N f t
  · rw [if_pos hp, ← h.i.s f t hp]
    obtain ⟨ha, _, _, hl⟩ := fnd_at f t D
    have hs := h.i.s f t hp
    by_cases h2 : 2 ≤ (sel f t L).length
    · rw [if_pos h2, if_pos h2, decide_eq_true h2]
      obtain ⟨q1, q2, q3, q4⟩ := h.pk f t 0
      obtain ⟨t1, t2, t3, t4⟩ := h.take f t 0
      obtain ⟨i, hi, hlen, _⟩ := fd_in (f := f) (t := t) (c := 0) (L := L) (by omega) (by omega)
      have hin : inL (Go.Proofs.Ytgpgbingmeehdaa.gt f t D) 0 := by rw [← hs]; unfold inL; omega
      have e1 : pkD N D f t 0 = (true, (Go.Proofs.Ytgpgbingmeehdaa.gt f t D).getD 0 []) := if_pos ⟨hp, hin⟩
      have e3 : tkD N D f t 0 = (fnd f t D).2.set (fnd f t D).1 (f, t, (Go.Proofs.Ytgpgbingmeehdaa.gt f t D).drop 1) := by
        have : tkD N D f t 0 = (fnd f t D).2.set (fnd f t D).1 (f, t, (Go.Proofs.Ytgpgbingmeehdaa.gt f t D).take (0 : Int).toNat ++ (Go.Proofs.Ytgpgbingmeehdaa.gt f t D).drop ((0 : Int).toNat + 1)) := if_pos ⟨hp, hin⟩
        rw [this]
        rfl
      rw [e1] at q2
      rw [e3] at t1
      have ha2 := (ha.set ((Go.Proofs.Ytgpgbingmeehdaa.gt f t D).drop 1)).1
      have hsend := t1.send hp ha2 (pkL f t 0 L)
      rw [List.set_set, q2] at hsend
      unfold trL
      rw [q2, hs]
      refine ⟨rfl, hsend, by rw [List.length_append, List.length_singleton]; have := h.l; omega, by rw [List.length_set]; exact hl, fun x hx => ?_⟩
      rcases List.mem_append.1 hx with hx | hx
      · exact t4 x hx
      · rw [List.mem_singleton.1 hx]
        rw [q2] at q3
        exact q3
    · rw [if_neg h2, if_neg h2, decide_eq_false h2]
      exact ⟨rfl, h.i.find f t, h.l, hl, h.b⟩
  · have e := h.i.none hp
    rw [if_neg hp, e]
    refine ⟨rfl, ?_, ?_, Nat.le_succ _, ?_⟩
    · exact h.i
    · exact h.l
    · exact h.b
end Go.Proofs.Ytgpgbingmeehdaa

/- The document's links: Turn. -/
namespace Go.Proofs.Ytgpgbingmeehdaa
open Go.RowKit Go.Lib Go.Maps
set_option linter.unusedSimpArgs false
set_option linter.unusedVariables false
attribute [local go_sem ↓] Go.wp_at_zero Go.wp_at_succ

theorem rowOnL {w W : World} {base e m : Nat} {u : Value} {us : List Value} (h : w.ownsRow base e 1 u m us) (hb : Below w.heap.size w W) : W.ownsRow base e 1 u m us := ownsRow_keep h (fun g hg => hb.block g (ownsRow_lt h g hg).2)
set_option maxRecDepth 100000 in
set_option maxHeartbeats 4000000 in
theorem rTurn_on {w : World} {Y : Nat} {G : Nat → Prop} {N : Int} {D : List Lk} (h : QLM w Y G N D) (hl : D.length ≤ 800) {f t : Int} (hgl : (gt f t D).length ≤ 1000) (hp : Pty N f t) (h2 : 2 ≤ (gt f t D).length) :
    Calls Try.prog 20 #[.pointer (some ⟨Y, 0, none⟩), .int .i64 f, .int .i64 t] w fun e w' => e = .returned (.bool true) ∧ QLM w' Y (nF G w) N ((fnd f t D).2.set (fnd f t D).1 (f, t, (gt f t D).drop 1 ++ [(gt f t D).getD 0 []])) ∧ Kf G w w' := by
  obtain ⟨E0, v0, h, rfl⟩ := h
  rw [List.length_map] at hl
  have h1 := rFind_any h (by omega) hp
  obtain ⟨ha, _, _, hlen⟩ := fnd_at f t (E0.map ml)
  generalize (fnd f t (E0.map ml)).1 = i at *
  generalize (fnd f t (E0.map ml)).2 = D' at *
  generalize gt f t (E0.map ml) = l at *
  obtain ⟨n, hn⟩ : ∃ n, l.length = n := ⟨_, rfl⟩
  have HM := hideL hn
  have HA := hideL ha
  rw [hn] at hgl h2
  have HAT := hideL (fun w1 g' E' u' (q : QL w1 Y (nF G w) N E' u') (hg : u'.ownBlock = some g') (hE : E'.map ml = D') => QLM.at q hE hg HA.out)
  obtain ⟨j0, hj, hj0, hj1, hj2⟩ := inf_getL Try.infoBy
  have k0 : ¬ (n : Int) < 2 := by omega
  clear h ha hn
  go_enter Try.func20, Try.ntmps20
  go_wp2_with (first
    | (go_at_call 27; refine h1.mono ?_; rintro e w2 ⟨g', rfl, ⟨E, u', q2, hg, hE⟩, k2⟩; obtain ⟨v, Z, cap, hu', hEi, hZ, c2, f2, hR, hgl2⟩ := HAT.out w2 g' E u' q2 hg hE; have hZl : Z.length = n := (by have := congrArg List.length hZ; rw [List.length_map, HM.out] at this; exact this); obtain ⟨gz, zc, hv, hz1, hz3, cz0, _⟩ := hR.at (show Z[0]? = some (Z[0]'(by omega)) from List.getElem?_eq_getElem (by omega)); rw [hZl] at hv hz1; subst hv; have HQ := hideL (And.intro q2 (And.intro hg (And.intro hE (And.intro k2 (And.intro hEi (And.intro hZ (And.intro hR hZl))))))); clear h1 q2 hg hE k2 hEi hZ hR)
    | fail)
  obtain ⟨q2, hg, hE, k2, hEi, hZ, hR, _⟩ := HQ.out
  obtain ⟨z0, hz0⟩ : ∃ z, Z[0]? = some z := ⟨_, List.getElem?_eq_getElem (by omega)⟩
  have hz0e : Z[0]'(by omega) = z0 := by
    have := List.getElem?_eq_getElem (l := Z) (i := 0) (by omega)
    rw [hz0] at this
    exact (Option.some.inj this).symm
  rw [hz0e] at cz0
  obtain ⟨ea, ec, hze, _⟩ := (hR.s z0 (List.mem_of_getElem? hz0)).r
  obtain ⟨en, hen⟩ : ∃ k, z0.2.length = k := ⟨_, rfl⟩
  rw [hen] at hze
  rw [hze] at cz0
  obtain ⟨xs1, hx1⟩ : ∃ xs : List Value, (Z.drop 1).map (·.1) = xs := ⟨_, rfl⟩
  have hzc1 : ¬ zc = 1 := by omega
  have hcells : ∀ k z, Z[k]? = some z → w2.cell? ⟨gz, k, none⟩ = some z.1 := fun k z hz => by
    obtain ⟨g1, c1, hv1, _, _, h5, _⟩ := hR.at hz
    simp only [Value.slice.injEq, Option.some.injEq, Addr.mk.injEq, and_true, true_and] at hv1
    rw [hv1.1]
    exact h5
  have hS1 : ∀ W, Below w2.heap.size w2 W → Src Try.prog 1 54 (.slice (some ⟨gz, 1, none⟩) (n - 1) (zc - 1)) (n - 1) xs1 W := fun W hb => by
    rw [← hx1]
    exact src_dropZ (ok := fun _ => True) (if_neg hzc1) (fun k z hz => (hb.cell (p := ⟨gz, k, none⟩) hz3).trans (hcells k z hz)) (fun z hz => (hR.s z hz).stay (fun g _ hlt => ⟨trivial, hb.block g hlt⟩)) (by omega) (by omega) _
  have hDone : ∀ v5 w5, w5.ownsRow w2.heap.size 29 1 v5 (n - 1 + 1) (xs1 ++ [.slice ea en ec]) → Below w2.heap.size w2 w5 → QLM (w5.setCell ⟨g', i * 3 + 2, none⟩ v5) Y (nF G w) N (D'.set i (f, t, l.drop 1 ++ [l.getD 0 []])) ∧ Kf G w (w5.setCell ⟨g', i * 3 + 2, none⟩ v5) ∧ w5.cell? ⟨g', i * 3 + 2, none⟩ = some (.slice (some ⟨gz, 0, none⟩) n zc) ∧ w5.frozen? ⟨g', i * 3 + 2, none⟩ = false := fun v5 w5 o5 b25 => by
    have hl5 : (Z.drop 1 ++ [z0]).length = n - 1 + 1 := by rw [List.length_append, List.length_drop, List.length_singleton]; omega
    have hm5 : (Z.drop 1 ++ [z0]).map (·.1) = xs1 ++ [.slice ea en ec] := by rw [List.map_append, hx1, ← hze]; rfl
    have hq := q_done q2 hE hEi hg b25 (Z5 := Z.drop 1 ++ [z0]) (by rw [hl5, hm5]; exact o5) (fun z hz => by
      rcases List.mem_append.1 hz with hz | hz
      · exact List.mem_of_mem_drop hz
      · rw [List.mem_singleton.1 hz]
        exact List.mem_of_getElem? hz0) (fun j hj => .inr (Nat.le_trans k2.size hj))
    have hml : (Z.drop 1 ++ [z0]).map (·.2) = l.drop 1 ++ [l.getD 0 []] := by
      rw [List.map_append, List.map_drop, hZ]
      congr 1
      rw [← hZ]
      simp [List.getD, List.getElem?_map, hz0]
    rw [hml] at hq
    exact ⟨hq, (k2.trans (Kf.of b25 (Nat.le_refl _))).setN (q2.oo g' hg).1 _, (b25.cell (p := ⟨g', i * 3 + 2, none⟩) hgl2).trans c2, (frozen_of_block (j := i * 3 + 2) (b25.block g' hgl2)).trans f2⟩
  have hA0 : Below w2.heap.size w2 (w2.alloc (.cells #[] 29)).drew := ((Below.refl _ _).alloc (Nat.le_refl _) _).drew
  have hB0 : Below w2.heap.size w2 ((w2.alloc (.cells #[] 29)).alloc (.cells #[.slice ea en ec] 29)).drew := (((Below.refl _ _).alloc (Nat.le_refl _) _).alloc (by simp) _).drew
  have hC0 : Below w2.heap.size w2 ((w2.alloc (.cells #[.slice ea en ec] 29)).alloc (.cells #[] 29)).drew := (((Below.refl _ _).alloc (Nat.le_refl _) _).alloc (by simp) _).drew
  have hoA : (w2.alloc (.cells #[] 29)).drew.ownsRow w2.heap.size 29 1 (.slice (some ⟨w2.heap.size, 0, none⟩) 0 0) 0 [] := World.ownsRow_made w2 #[] 0 (Nat.le_refl _) (Nat.zero_le _) rfl
  have hoB : ((w2.alloc (.cells #[] 29)).alloc (.cells #[.slice ea en ec] 29)).drew.ownsRow w2.heap.size 29 1 (.slice (some ⟨w2.heap.size, 0, none⟩) 0 0) 0 [] := (own_nilB w2 29).alloc _
  have hoC : ((w2.alloc (.cells #[.slice ea en ec] 29)).alloc (.cells #[] 29)).drew.ownsRow w2.heap.size 29 1 (.slice (some ⟨w2.heap.size + 1, 0, none⟩) 0 0) 0 [] := by
    have h := own_nilB (w2.alloc (.cells #[.slice ea en ec] 29)) 29
    have e : (w2.alloc (.cells #[.slice ea en ec] 29)).heap.size = w2.heap.size + 1 := by simp
    rw [e] at h
    refine ⟨h.1, h.2.imp id (fun ⟨a, b, c, e1, e2, e3⟩ => ⟨a, b, c, e1, by omega, e3⟩)⟩
  have hgA : ∀ wa : World, (w2.alloc (.cells #[] 29)).drew.grownBy wa (Value.slice (some ⟨w2.heap.size, 0, none⟩) 0 0).ownBlock → Below w2.heap.size w2 wa ∧ True := fun wa hg => ⟨hA0.grown hg hA0.size (fun k hk => by have : w2.heap.size = k := Option.some.inj hk; omega), trivial⟩
  have hgB : ∀ wa : World, ((w2.alloc (.cells #[] 29)).alloc (.cells #[.slice ea en ec] 29)).drew.grownBy wa (Value.slice (some ⟨w2.heap.size, 0, none⟩) 0 0).ownBlock → Below w2.heap.size w2 wa ∧ Src Try.prog 1 54 (.slice (some ⟨w2.heap.size + 1, 0, none⟩) 1 1) 1 [.slice ea en ec] wa := fun wa hg => by
    refine ⟨hB0.grown hg hB0.size (fun k hk => by have : w2.heap.size = k := Option.some.inj hk; omega), ?_⟩
    have hB := Bn.new (w2.alloc (.cells #[] 29)) [.slice ea en ec] 29 (w2.heap.size + 1) (by simp)
    have hB2 : Bn wa (w2.heap.size + 1) [.slice ea en ec] := hB.blk (hg.block (w2.heap.size + 1) (by show w2.heap.size + 1 < (World.alloc _ _).heap.size; simp) (fun e => by have : w2.heap.size = w2.heap.size + 1 := (Option.some.inj e).symm; omega))
    refine Src.ofSlice _ Try.underlying54 _ 1 1 _ rfl (fun j x hj => ?_) (fun x hx => by rw [List.mem_singleton.1 hx]; rfl)
    rw [add_plain, Nat.zero_add]
    exact (hB2 j x hj).1
  have hgC : ∀ wa : World, ((w2.alloc (.cells #[.slice ea en ec] 29)).alloc (.cells #[] 29)).drew.grownBy wa (Value.slice (some ⟨w2.heap.size + 1, 0, none⟩) 0 0).ownBlock → Below w2.heap.size w2 wa ∧ Src Try.prog 1 54 (.slice (some ⟨w2.heap.size, 0, none⟩) 1 1) 1 [.slice ea en ec] wa := fun wa hg => by
    refine ⟨hC0.grown hg hC0.size (fun k hk => by have : w2.heap.size + 1 = k := Option.some.inj hk; omega), ?_⟩
    have hB := (Bn.new w2 [.slice ea en ec] 29 w2.heap.size rfl).on ((Below.refl _ (w2.alloc (.cells #[.slice ea en ec] 29))).alloc (Nat.le_refl _) (.cells #[] 29))
    have hB2 : Bn wa w2.heap.size [.slice ea en ec] := hB.blk (hg.block w2.heap.size (by show w2.heap.size < (World.alloc _ _).heap.size; simp; omega) (fun e => by have : w2.heap.size + 1 = w2.heap.size := (Option.some.inj e).symm; omega))
    refine Src.ofSlice _ Try.underlying54 _ 1 1 _ rfl (fun j x hj => ?_) (fun x hx => by rw [List.mem_singleton.1 hx]; rfl)
    rw [add_plain, Nat.zero_add]
    exact (hB2 j x hj).1
  have HX := hideL (And.intro (And.intro hoA (And.intro hA0 hgA)) (And.intro (And.intro hoB (And.intro hB0 hgB)) (And.intro (And.intro hoC (And.intro hC0 hgC)) (And.intro hS1 hDone))))
  have C1 := (hA0.cell (p := ⟨g', i * 3 + 2, none⟩) hgl2).trans c2
  have k4 : (1 : Int) ≤ (n : Int) := by omega
  have k5 : (0 : Int) < (n : Int) := by omega
  have k6 : (n : Int) ≤ (zc : Int) := by omega
  have k7 : 1 ≤ n := by omega
  have k8 : 0 < n := by omega
  clear q2 hg hE k2 hEi hZ hR hcells hS1 hDone hA0 hB0 hC0 hoA hoB hoC hgA hgB hgC hx1 hze hen hz0e hz0 HQ HM HA HAT hlen
  go_region_law (first
    | (refine step_append_at _ (by rfl) (.tmp 23) (.tmp 28) 54 54 (by rfl) w2.heap.size 29 j0 (.slice none 0 0) 1 24 Try.underlying54 hj hj0 hj1 hj2 rfl (.slice (some ⟨w2.heap.size, 0, none⟩) 0 0) 0 [] (by rfl) HX.out.1.1 (.slice (some ⟨gz, 1, none⟩) (n - 1) (zc - 1)) (n - 1) xs1 (by rfl) (HX.out.2.2.2.1 _ HX.out.1.2.1) (n - 1) (.inr (by omega)) (Nat.le_refl _) (by unfold maxLen; omega) HX.out.1.2.1.size ?_; intro v3 w3 o3 g3 a3; rw [Nat.zero_add, List.nil_append] at o3; obtain ⟨sa, sc, hv3, _, _⟩ := row1_form o3; subst hv3; obtain ⟨b3, hsz⟩ := HX.out.1.2.2 w3 g3; have c3 := (b3.cell (p := ⟨g', i * 3 + 2, none⟩) hgl2).trans c2; have d3 := (b3.cell (p := ⟨gz, 0, none⟩) hz3).trans cz0; have HO3 := hideL (And.intro o3 (And.intro b3 hsz)); clear o3 g3 a3 b3 hsz)
    | (refine step_append_at _ (by rfl) (.tmp 23) (.tmp 28) 54 54 (by rfl) w2.heap.size 29 j0 (.slice none 0 0) 1 24 Try.underlying54 hj hj0 hj1 hj2 rfl (.slice (some ⟨w2.heap.size, 0, none⟩) 0 0) 0 [] (by rfl) HX.out.2.1.1 (.slice (some ⟨gz, 1, none⟩) (n - 1) (zc - 1)) (n - 1) xs1 (by rfl) (HX.out.2.2.2.1 _ HX.out.2.1.2.1) (n - 1) (.inr (by omega)) (Nat.le_refl _) (by unfold maxLen; omega) HX.out.2.1.2.1.size ?_; intro v3 w3 o3 g3 a3; rw [Nat.zero_add, List.nil_append] at o3; obtain ⟨sa, sc, hv3, _, _⟩ := row1_form o3; subst hv3; obtain ⟨b3, hsz⟩ := HX.out.2.1.2.2 w3 g3; have c3 := (b3.cell (p := ⟨g', i * 3 + 2, none⟩) hgl2).trans c2; have d3 := (b3.cell (p := ⟨gz, 0, none⟩) hz3).trans cz0; have HO3 := hideL (And.intro o3 (And.intro b3 hsz)); clear o3 g3 a3 b3 hsz)
    | (refine step_append_at _ (by rfl) (.tmp 23) (.tmp 28) 54 54 (by rfl) w2.heap.size 29 j0 (.slice none 0 0) 1 24 Try.underlying54 hj hj0 hj1 hj2 rfl (.slice (some ⟨w2.heap.size + 1, 0, none⟩) 0 0) 0 [] (by rfl) HX.out.2.2.1.1 (.slice (some ⟨gz, 1, none⟩) (n - 1) (zc - 1)) (n - 1) xs1 (by rfl) (HX.out.2.2.2.1 _ HX.out.2.2.1.2.1) (n - 1) (.inr (by omega)) (Nat.le_refl _) (by unfold maxLen; omega) HX.out.2.2.1.2.1.size ?_; intro v3 w3 o3 g3 a3; rw [Nat.zero_add, List.nil_append] at o3; obtain ⟨sa, sc, hv3, _, _⟩ := row1_form o3; subst hv3; obtain ⟨b3, hsz⟩ := HX.out.2.2.1.2.2 w3 g3; have c3 := (b3.cell (p := ⟨g', i * 3 + 2, none⟩) hgl2).trans c2; have d3 := (b3.cell (p := ⟨gz, 0, none⟩) hz3).trans cz0; have HO3 := hideL (And.intro o3 (And.intro b3 hsz)); clear o3 g3 a3 b3 hsz)
    | (refine step_append_at _ (by rfl) (.tmp 29) (.tmp 36) 54 54 (by rfl) w2.heap.size 29 j0 (.slice none 0 0) 1 24 Try.underlying54 hj hj0 hj1 hj2 rfl (.slice sa (n - 1) sc) (n - 1) xs1 (by rfl) HO3.out.1 (.slice (some ⟨w2.heap.size + 1, 0, none⟩) 1 1) 1 [.slice ea en ec] (by rfl) HO3.out.2.2 1 (.inr (by omega)) (Nat.le_refl _) (by unfold maxLen; omega) HO3.out.2.1.size ?_; intro v5 w5 o5 g5 a5; obtain ⟨r1, r2, c5, f5⟩ := HX.out.2.2.2.2 v5 w5 o5 (HO3.out.2.1.grown g5 HO3.out.2.1.size (fun k hk => (ownsRow_lt HO3.out.1 k hk).1)); obtain ⟨ta, tc, hv5, _, _⟩ := row1_form o5; subst hv5; have HR := hideL (And.intro r1 r2); clear o5 g5 a5 r1 r2)
    | (refine step_append_at _ (by rfl) (.tmp 29) (.tmp 36) 54 54 (by rfl) w2.heap.size 29 j0 (.slice none 0 0) 1 24 Try.underlying54 hj hj0 hj1 hj2 rfl (.slice sa (n - 1) sc) (n - 1) xs1 (by rfl) HO3.out.1 (.slice (some ⟨w2.heap.size, 0, none⟩) 1 1) 1 [.slice ea en ec] (by rfl) HO3.out.2.2 1 (.inr (by omega)) (Nat.le_refl _) (by unfold maxLen; omega) HO3.out.2.1.size ?_; intro v5 w5 o5 g5 a5; obtain ⟨r1, r2, c5, f5⟩ := HX.out.2.2.2.2 v5 w5 o5 (HO3.out.2.1.grown g5 HO3.out.2.1.size (fun k hk => (ownsRow_lt HO3.out.1 k hk).1)); obtain ⟨ta, tc, hv5, _, _⟩ := row1_form o5; subst hv5; have HR := hideL (And.intro r1 r2); clear o5 g5 a5 r1 r2)
    | (have hal3 := (Below.refl w3.heap.size w3).alloc (Nat.le_refl _) (.cells #[.slice ea en ec] 29); have hb3 := HO3.out.2.1.trans (hal3.mono HO3.out.2.1.size); have hO3a := rowOnL HO3.out.1 hal3; have hsra := src_oneB w3 (.slice ea en ec) rfl; refine step_append_at (w3.alloc (.cells #[.slice ea en ec] 29)) (by rfl) (.tmp 29) (.tmp 36) 54 54 (by rfl) w2.heap.size 29 j0 (.slice none 0 0) 1 24 Try.underlying54 hj hj0 hj1 hj2 rfl (.slice sa (n - 1) sc) (n - 1) xs1 (by rfl) hO3a (.slice (some ⟨w3.heap.size, 0, none⟩) 1 1) 1 [.slice ea en ec] (by rfl) hsra 1 (.inr (by omega)) (Nat.le_refl _) (by unfold maxLen; omega) hb3.size ?_; intro v5 w5 o5 g5 a5; obtain ⟨r1, r2, c5, f5⟩ := HX.out.2.2.2.2 v5 w5 o5 (hb3.grown g5 hb3.size (fun k hk => (ownsRow_lt HO3.out.1 k hk).1)); obtain ⟨ta, tc, hv5, _, _⟩ := row1_form o5; subst hv5; have HR := hideL (And.intro r1 r2); clear o5 g5 a5 r1 r2; clear hal3 hb3 hO3a hsra)
    | fail)
  all_goals (
    go_wp2
    go_ret
    have hr := HR.out
    rw [show n - 1 + 1 = n by omega] at hr
    exact ⟨rfl, hr⟩)

/-- Both, and a block of another's. -/
def PSt (w0 w : World) (X Y : Nat) (N : Int) (L : LtL) (D : List Lk) (B : Nat) (cs : List Value) : Prop := ∃ F G, TL w0 w X Y F G N L D ∧ Bn w B cs ∧ B < w.heap.size ∧ ¬ F B ∧ ¬ G B
/-- Besides, what was told, in memory that is none of the document's. -/
def PSU (w0 w : World) (X Y : Nat) (N : Int) (L : LtL) (D : List Lk) (B : Nat) (cs : List Value) (u : Value) (b : List Int) : Prop := ∃ F G, TL w0 w X Y F G N L D ∧ Bn w B cs ∧ B < w.heap.size ∧ ¬ F B ∧ ¬ G B ∧ RB w (fun g => ¬ G g) u b
theorem PSt.on {w0 w w' : World} {X Y B : Nat} {N : Int} {L : LtL} {D : List Lk} {cs : List Value} (h : PSt w0 w X Y N L D B cs) (hb : Below w.heap.size w w') : PSt w0 w' X Y N L D B cs := by
  obtain ⟨F, G, h1, h2, h3, h4, h5⟩ := h
  exact ⟨F, G, h1.on hb, h2.blk (hb.block B h3), Nat.lt_of_lt_of_le h3 hb.size, h4, h5⟩
theorem PSt.stepP {w0 w : World} {X Y B : Nat} {N : Int} {L L' : LtL} {D : List Lk} {cs : List Value} {f : Nat} {args : Array Value} {v : Value} (h : PSt w0 w X Y N L D B cs)
    (hc : ∀ F, PLM w X F N L → Calls Try.prog f args w fun e w' => e = .returned v ∧ PLM w' X (nF F w) N L' ∧ Kf F w w') : Calls Try.prog f args w fun e w' => e = .returned v ∧ PSt w0 w' X Y N L' D B cs := by
  obtain ⟨F, G, h1, h2, h3, h4, h5⟩ := h
  refine (hc F h1.p).mono ?_
  rintro e w1 ⟨rfl, p, k⟩
  exact ⟨rfl, _, G, h1.stepP p k, h2.blk (k.block B h3 h4), Nat.lt_of_lt_of_le h3 k.size, fun e => e.1.elim h4 (fun e => by omega), h5⟩
theorem PSt.stepQ {w0 w : World} {X Y B : Nat} {N : Int} {L : LtL} {D D' : List Lk} {cs : List Value} {f : Nat} {args : Array Value} {v : Value} (h : PSt w0 w X Y N L D B cs)
    (hc : ∀ G, QLM w Y G N D → (∀ j, G j → w0.heap.size ≤ j) → Below w0.heap.size w0 w → Calls Try.prog f args w fun e w' => e = .returned v ∧ QLM w' Y (nF G w) N D' ∧ Kf G w w') : Calls Try.prog f args w fun e w' => e = .returned v ∧ PSt w0 w' X Y N L D' B cs := by
  obtain ⟨F, G, h1, h2, h3, h4, h5⟩ := h
  refine (hc G h1.q (fun j hj => (h1.g j hj).1) h1.a).mono ?_
  rintro e w1 ⟨rfl, q, k⟩
  exact ⟨rfl, F, _, h1.stepQ q k, h2.blk (k.block B h3 h5), Nat.lt_of_lt_of_le h3 k.size, h4, fun e => e.1.elim h5 (fun e => by omega)⟩
theorem PSt.lTake {w0 w : World} {X Y B : Nat} {N : Int} {L : LtL} {D : List Lk} {cs : List Value} (h : PSt w0 w X Y N L D B cs) (hl : L.length ≤ 1000) (f t c : Int) :
    Calls Try.prog 13 #[.pointer (some ⟨X, 0, none⟩), .int .i64 f, .int .i64 t, .int .i64 c] w fun e w' => ∃ u, e = .returned (.tuple #[u, .bool (fd f t c 0 0 L).isSome]) ∧ PSU w0 w' X Y N (tkL f t c L) D B cs u (pkL f t c L) := by
  obtain ⟨F, G, h1, h2, h3, h4, h5⟩ := h
  refine (lTake_any h1.p hl f t c).mono ?_
  rintro e w1 ⟨u, rfl, r, p, k⟩
  exact ⟨u, rfl, _, G, h1.stepP p.wide k, h2.blk (k.block B h3 h4), Nat.lt_of_lt_of_le h3 k.size, fun e => e.1.elim h4 (fun e => by omega), h5, r.stay (fun g hg hlt => ⟨h1.d g hg, rfl⟩)⟩
theorem PSt.lPeek {w0 w : World} {X Y B : Nat} {N : Int} {L : LtL} {D : List Lk} {cs : List Value} (h : PSt w0 w X Y N L D B cs) (hl : L.length ≤ 1000) (hb : ∀ x ∈ L, x.2.2.length ≤ 1000000) (f t c : Int) :
    Calls Try.prog 15 #[.pointer (some ⟨X, 0, none⟩), .int .i64 f, .int .i64 t, .int .i64 c] w fun e w' => ∃ u, e = .returned (.tuple #[u, .bool (fd f t c 0 0 L).isSome]) ∧ PSU w0 w' X Y N L D B cs u (pkL f t c L) := by
  obtain ⟨F, G, h1, h2, h3, h4, h5⟩ := h
  refine (lPeek_any h1.p hl hb f t c).mono ?_
  rintro e w1 ⟨u, rfl, o, b⟩
  exact ⟨u, rfl, F, G, h1.on b, h2.blk (b.block B h3), Nat.lt_of_lt_of_le h3 b.size, h4, h5, (own_rb o (Below.refl _ _)).stay (fun g hg hlt => ⟨fun e => by have := (h1.g g e).2; omega, rfl⟩)⟩
theorem PSU.fin {w0 w w' : World} {X Y B : Nat} {N : Int} {L : LtL} {D D' : List Lk} {cs : List Value} {u v : Value} {b b' : List Int} {G : Nat → Prop} {F : Nat → Prop} (h1 : TL w0 w X Y F G N L D) (h2 : Bn w B cs) (h3 : B < w.heap.size) (h4 : ¬ F B) (h5 : ¬ G B) (hr : RB w (fun g => ¬ G g) u b)
    (hq : QU w' Y G w N D' v b') (k : Kf G w w') : PSt w0 w' X Y N L D' B cs ∧ Rd w' u b ∧ Rd w' v b' := by
  obtain ⟨G1, q, hG, hv⟩ := hq
  exact ⟨⟨F, _, h1.stepQ (q.keep (fun _ _ _ => rfl) (fun j _ hj => hG j hj)) k, h2.blk (k.block B h3 h5), Nat.lt_of_lt_of_le h3 k.size, h4, fun e => e.1.elim h5 (fun e => by omega)⟩, (hr.stay (ok' := fun _ => True) (fun g hg hlt => ⟨trivial, k.block g hlt hg⟩)).r, hv.r⟩
theorem PSU.rTake {w0 w : World} {X Y B : Nat} {N : Int} {L : LtL} {D : List Lk} {cs : List Value} {u : Value} {b : List Int} (h : PSU w0 w X Y N L D B cs u b) (hl : D.length ≤ 800) {f t : Int} (hgl : Pty N f t → (gt f t D).length ≤ 1000) (hb : Pty N f t → ∀ b ∈ gt f t D, b.length ≤ 1000000) (c : Int) :
    Calls Try.prog 14 #[.pointer (some ⟨Y, 0, none⟩), .int .i64 f, .int .i64 t, .int .i64 c] w fun e w' => ∃ v, e = .returned (.tuple #[v, .bool (pkD N D f t c).1]) ∧ PSt w0 w' X Y N L (tkD N D f t c) B cs ∧ Rd w' u b ∧ Rd w' v (pkD N D f t c).2 := by
  obtain ⟨F, G, h1, h2, h3, h4, h5, hr⟩ := h
  refine (rTake_any h1.q hl hgl hb c).mono ?_
  rintro e w1 ⟨v, rfl, q, k⟩
  exact ⟨v, rfl, PSU.fin h1 h2 h3 h4 h5 hr q k⟩
theorem PSU.rPeek {w0 w : World} {X Y B : Nat} {N : Int} {L : LtL} {D : List Lk} {cs : List Value} {u : Value} {b : List Int} (h : PSU w0 w X Y N L D B cs u b) (hl : D.length ≤ 800) {f t : Int} (hgl : Pty N f t → (gt f t D).length ≤ 1000) (hb : Pty N f t → ∀ b ∈ gt f t D, b.length ≤ 1000000) (c : Int) :
    Calls Try.prog 16 #[.pointer (some ⟨Y, 0, none⟩), .int .i64 f, .int .i64 t, .int .i64 c] w fun e w' => ∃ v, e = .returned (.tuple #[v, .bool (pkD N D f t c).1]) ∧ PSt w0 w' X Y N L (fnD N D f t) B cs ∧ Rd w' u b ∧ Rd w' v (pkD N D f t c).2 := by
  obtain ⟨F, G, h1, h2, h3, h4, h5, hr⟩ := h
  refine (rPeek_any h1.q (by omega) (fun hp => by have := hgl hp; omega) hb c).mono ?_
  rintro e w1 ⟨v, rfl, q, k⟩
  exact ⟨v, rfl, PSU.fin h1 h2 h3 h4 h5 hr q k⟩
/-- Turn, whatever comes. -/
theorem rTurn_any {w : World} {Y : Nat} {G : Nat → Prop} {N : Int} {D : List Lk} (h : QLM w Y G N D) (hl : D.length ≤ 800) {f t : Int} (hgl : Pty N f t → (gt f t D).length ≤ 1000) :
    Calls Try.prog 20 #[.pointer (some ⟨Y, 0, none⟩), .int .i64 f, .int .i64 t] w fun e w' => e = .returned (.bool (trD N D f t).1) ∧ QLM w' Y (nF G w) N (trD N D f t).2 ∧ Kf G w w' := by
  unfold trD
  by_cases hp : Pty N f t
  · rw [if_pos hp]
    replace hgl := hgl hp
    by_cases h2 : 2 ≤ (gt f t D).length
    · rw [if_pos h2]
      exact rTurn_on h hl hgl hp h2
    · rw [if_neg h2]
      obtain ⟨E, v0, h, rfl⟩ := h
      rw [List.length_map] at hl
      have h1 := rFind_any h (by omega) hp
      have HA := hideL (fnd_at f t (E.map ml)).1
      generalize (fnd f t (E.map ml)).1 = i at *
      generalize (fnd f t (E.map ml)).2 = D' at *
      generalize gt f t (E.map ml) = l at *
      have HAT := hideL (fun w1 g' E' u' (q : QL w1 Y (nF G w) N E' u') (hg : u'.ownBlock = some g') (hE : E'.map ml = D') => QLM.at q hE hg HA.out)
      obtain ⟨m, hm⟩ : ∃ m, l.length = m := ⟨_, rfl⟩
      have HM := hideL hm
      rw [hm] at h2 hgl
      have k1 : (m : Int) < 2 := by omega
      clear h hm h2
      go_enter Try.func20, Try.ntmps20
      go_wp2_with (first
        | (go_at_call 27; refine h1.mono ?_; rintro e w1 ⟨g', rfl, ⟨E', u', q, hg, hE⟩, k⟩; obtain ⟨v, Z, cap, hu, _, hZ, c2, _, hR, _⟩ := HAT.out w1 g' E' u' q hg hE; obtain ⟨za, zc, hv, _, _⟩ := hR.form; have hZl := congrArg List.length hZ; rw [List.length_map, HM.out] at hZl; rw [hv, hZl] at c2; have HQ := hideL (And.intro q (And.intro hE k)); clear h1 q hg hE k hu hZ hR hv hZl)
        | fail)
      obtain ⟨q, hE, k⟩ := HQ.out
      go_ret
      exact ⟨rfl, ⟨_, _, q, hE⟩, k⟩
  · rw [if_neg hp]
    have h1 := rFind_bad h hp
    have H0 := hideL h
    clear h
    go_enter Try.func20, Try.ntmps20
    go_wp2_with (first
      | (go_at_call 27; refine h1.mono ?_; rintro e w1 ⟨rfl, rfl⟩; clear h1)
      | fail)
    go_ret
    exact ⟨rfl, H0.out.wide, Kf.refl _ _⟩
end Go.Proofs.Ytgpgbingmeehdaa
