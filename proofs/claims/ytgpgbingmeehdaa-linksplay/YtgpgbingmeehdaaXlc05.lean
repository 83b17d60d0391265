import Derived.Test.YtgpgbingmeehdaaXlc04

/- The document's links: Send. -/
namespace Go.Proofs.Ytgpgbingmeehdaa
open Go.RowKit Go.Lib Go.Maps
set_option linter.unusedSimpArgs false
set_option linter.unusedVariables false
attribute [local go_sem ↓] Go.wp_at_zero Go.wp_at_succ

def sndD (N : Int) (D : List Lk) (f t : Int) (b : List Int) : Int × List Lk :=
  if Pty N f t then (if 100 ≤ tot D then (7, (fnd f t D).2) else (0, (fnd f t D).2.set (fnd f t D).1 (f, t, gt f t D ++ [b]))) else (5, D)
theorem QLM.wide {w w' : World} {Y : Nat} {G : Nat → Prop} {N : Int} {D : List Lk} (h : QLM w' Y G N D) : QLM w' Y (nF G w) N D := h.keep (fun _ _ _ => rfl) (fun _ _ hj => .inl hj)
theorem Try.infoBy : (Try.prog.info? 29).map (fun i => (i.zero, i.size, i.bytes)) = some (some (.slice none 0 0), 1, 24) := by kernel_rfl
theorem RW.src {w : World} {ok : Nat → Prop} {v : Value} {Z : Zb} (h : RW w ok v Z) {n : Nat} (hn : Z.length = n) : Src Try.prog 1 54 v n (Z.map (·.1)) w := by
  subst hn
  have h1 := zb_one h.s
  rcases h.f with ⟨rfl, rfl⟩ | ⟨g, cap, rfl, _, _, _, _, hc⟩
  · exact Src.ofNil w Try.underlying54 0
  · refine Src.ofSlice w Try.underlying54 _ Z.length cap _ (by simp) (fun j u hj => ?_) h1
    rw [List.getElem?_map] at hj
    cases hq : Z[j]? with
    | none => rw [hq] at hj; cases hj
    | some z =>
      rw [hq] at hj
      obtain rfl := Option.some.inj hj
      rw [add_plain, Nat.zero_add]
      exact hc j z hq
theorem own_nilB (w : World) (e : Nat) : (w.alloc (.cells #[] e)).ownsRow w.heap.size e 1 (.slice (some ⟨w.heap.size, 0, none⟩) 0 0) 0 [] := World.ownsRow_lit w #[] 0 (Nat.le_refl _) (by simp [maxLen]) (by simp)
theorem src_oneB (w : World) (u : Value) (hu : u.oneCell' = true) : Src Try.prog 1 54 (.slice (some ⟨w.heap.size, 0, none⟩) 1 1) 1 [u] (w.alloc (.cells #[u] 29)) := by
  refine Src.ofSlice _ Try.underlying54 _ 1 1 _ rfl (fun j x hj => ?_) (fun x hx => by rw [List.mem_singleton.1 hx]; exact hu)
  rw [add_plain, Nat.zero_add]
  exact (Bn.new w [u] 29 _ rfl j x hj).1
theorem Kf.setN {F : Nat → Prop} {X i : Nat} {a b : World} (h : Kf F a b) (hX : nF F a X) (u : Value) : Kf F a (b.setCell ⟨X, i, none⟩ u) := by
  rcases hX with hX | hX
  · exact h.set hX u
  · exact h.setNew hX u
/-- A link's letters are another row. -/
theorem ql_set {w : World} {Y : Nat} {H : Nat → Prop} {N : Int} {E : List (L3 Zb)} {u v : Value} {g i : Nat} {x : L3 Zb} {Z : Zb} (h : QL w Y H N E u) (hx : E[i]? = some x) (hg : u.ownBlock = some g) (hr : RW w (fun b => H b ∧ b ≠ Y ∧ u.ownBlock ≠ some b) v Z) :
    QL (w.setCell ⟨g, i * 3 + 2, none⟩ v) Y H N (E.set i (x.1, x.2.1, v, Z)) u := by
  have hi : i < E.length := (List.getElem?_eq_some_iff.1 hx).1
  obtain ⟨g', cap, hu, _, _, hgl, _, _⟩ := own3_at h.o (by omega)
  have hgY := (h.oo g hg).2
  have ho := h.o
  rw [hu] at hg
  have e : g' = g := Option.some.inj hg
  subst e
  rw [hu] at ho
  obtain ⟨o1, _⟩ := World.ownsRow.stored ho (i * 3 + 2) v
  rw [cel3_set v Z hx] at o1
  have key : ∀ b, (H b ∧ b ≠ Y ∧ u.ownBlock ≠ some b) → b < w.heap.size → (H b ∧ b ≠ Y ∧ u.ownBlock ≠ some b) ∧ (w.setCell ⟨g', i * 3 + 2, none⟩ v).heap[b]? = w.heap[b]? := fun b hb _ => ⟨hb, Below.heap_setCell _ _ _ _ (fun e => hb.2.2 (by have e2 : b = g' := e; rw [hu, e2]; rfl))⟩
  refine ⟨h.y, h.c.far hgY _, ?_, h.oo, fun y hy => ?_⟩
  · rw [List.length_set, hu]
    exact o1
  · rcases List.mem_or_eq_of_mem_set hy with hy | hy
    · exact (h.s y hy).keep key
    · rw [hy]
      exact hr.keep key
theorem map_ml_set {E : List (L3 Zb)} {D : List Lk} (h : E.map ml = D) (i : Nat) (f t : Int) (v : Value) (Z : Zb) : (E.set i (f, t, v, Z)).map ml = D.set i (f, t, Z.map (·.2)) := by rw [List.map_set, h]; rfl
set_option maxRecDepth 100000 in
set_option maxHeartbeats 2000000 in
theorem rSend_room {w : World} {Y : Nat} {G : Nat → Prop} {N : Int} {D : List Lk} (h : QLM w Y G N D) (hl : D.length ≤ 900) (ht : ¬ 100 ≤ tot D) {f t : Int} (hp : Pty N f t) {u : Value} {b : List Int} (hu : ∀ W, Kf G w W → Rd W u b) (hb : b.length ≤ 1000000) :
    Calls Try.prog 12 #[.pointer (some ⟨Y, 0, none⟩), .int .i64 f, .int .i64 t, u] w fun e w' => e = .returned (.int .i64 0) ∧ QLM w' Y (nF G w) N ((fnd f t D).2.set (fnd f t D).1 (f, t, gt f t D ++ [b])) ∧ Kf G w w' := by
  obtain ⟨E, v0, h, rfl⟩ := h
  rw [List.length_map] at hl
  have h1 := rFind_any h (by omega) hp
  have hYl := h.lt
  obtain ⟨ha, _, htot, hlen⟩ := fnd_at f t (E.map ml)
  rw [List.length_map] at hlen
  rw [← htot] at ht
  have HA := hideL ha
  generalize (fnd f t (E.map ml)).1 = i at *
  generalize (fnd f t (E.map ml)).2 = D' at *
  generalize gt f t (E.map ml) = l at *
  clear h ha htot
  have hll : l.length ≤ tot D' := by
    have := HA.out.set []
    have h3 := this.2.2
    simp only [List.length_nil] at h3
    omega
  have HAT := hideL (fun w1 g' E' u' (q : QL w1 Y (nF G w) N E' u') (hg : u'.ownBlock = some g') (hE : E'.map ml = D') => QLM.at q hE hg HA.out)
  obtain ⟨j0, hj, hj0, hj1, hj2⟩ := inf_getL Try.infoBy
  obtain ⟨i0, hi, hi0, hi1, hi2⟩ := inf_getL Try.info5
  obtain ⟨ua, uc, hue, _⟩ := hu w (Kf.refl _ _)
  subst hue
  have HU := hideL hu
  obtain ⟨nb, hnb⟩ : ∃ n, b.length = n := ⟨_, rfl⟩
  have HNB := hideL hnb
  rw [hnb] at hb ⊢
  clear hu hnb
  go_enter Try.func12, Try.ntmps12
  go_wp2_with (first
    | (go_at_call 27; refine h1.mono ?_; rintro e w1 ⟨g', rfl, ⟨E', u', q, hg, hE⟩, k⟩; obtain ⟨v, Z, cap, hu', hEi, hZ, c2, f2, hR, hgl⟩ := HAT.out w1 g' E' u' q hg hE; have hT := rTotal_any ⟨E', u', q, hE⟩ (by omega) (by omega); have HQ := hideL (And.intro q (And.intro hE (And.intro k (And.intro hR (And.intro hZ hEi))))); clear h1 q hE k hZ hR hEi)
    | fail)
  go_at_call 22
  refine hT.mono ?_
  rintro e w2 ⟨rfl, b2⟩
  have k1 : ¬ (tot D' : Int) ≥ 100 := by omega
  obtain ⟨q, hE, k, hR, hZ, hEi⟩ := HQ.out
  have q2 := q.on b2
  have hR2 := hR.keep (ok' := fun b => nF G w b ∧ b ≠ Y ∧ u'.ownBlock ≠ some b) (fun g hg hlt => ⟨hg, b2.block g hlt⟩)
  have k2 : Kf G w w2 := k.trans (Kf.of b2 (Nat.le_refl _))
  obtain ⟨nz, hnz⟩ : ∃ n, Z.length = n := ⟨_, rfl⟩
  have hnl : nz ≤ 100 := by
    have := congrArg List.length hZ
    rw [List.length_map] at this
    omega
  obtain ⟨za, zc, hv, _, _⟩ := hR2.form
  rw [hnz] at hv
  subst hv
  have c3 := (b2.cell (p := ⟨g', i * 3 + 2, none⟩) hgl).trans c2
  have f3 := (frozen_of_block (j := i * 3 + 2) (b2.block g' hgl)).trans f2
  have hgl2 : g' < w2.heap.size := Nat.lt_of_lt_of_le hgl b2.size
  have hal1 : Below w2.heap.size w2 (w2.alloc (.cells #[] 29)) := (Below.refl _ _).alloc (Nat.le_refl _) _
  have hs1 := (hR2.keep (ok' := fun _ => True) (fun g _ hlt => ⟨trivial, hal1.block g hlt⟩)).src hnz
  obtain ⟨xs, hxs⟩ : ∃ xs : List Value, Z.map (·.1) = xs := ⟨_, rfl⟩
  rw [hxs] at hs1
  have HXS := hideL hxs
  have HS1 := hideL hs1
  have H2 := hideL (And.intro q2 (And.intro hE (And.intro k2 (And.intro hR2 (And.intro hZ hEi)))))
  have HNZ := hideL hnz
  clear hT b2 HQ q hE k hR hZ hEi q2 hR2 k2 hs1 hal1 hnz c2 f2 hxs
  go_wp2_with (first
    | (at_builtin; go_loud (refine wpList_append_at _ rfl (.tmp 20) (.tmp 24) 54 54 rfl w2.heap.size 29 j0 (.slice none 0 0) 1 24 Try.underlying54 hj hj0 hj1 hj2 rfl _ 0 [] rfl (own_nilB w2 29) (.slice za nz zc) nz xs rfl HS1.out nz (.inr (by omega)) (Nat.le_refl _) (by unfold maxLen; omega) (by simp) ?_))
    | fail)
  intro v3 w3 o3 g3 a3
  have o3' : w3.ownsRow w2.heap.size 29 1 v3 nz xs := by simpa using o3
  have b3 : Below w2.heap.size w2 w3 := ((Below.refl _ _).alloc (Nat.le_refl _) _).grown g3 (by simp) (fun k hk => by simp [Value.ownBlock] at hk; omega)
  have hal3 : Below w3.heap.size w3 (w3.alloc (.cells #[] 5)) := (Below.refl _ _).alloc (Nat.le_refl _) _
  have hU3 : Rd (w3.alloc (.cells #[] 5)) (.slice ua nb uc) b := by
    have := HU.out _ ((H2.out.2.2.1.trans (Kf.of b3 (Nat.le_refl _))).trans (Kf.of hal3 (Nat.le_refl _)))
    rwa [HNB.out] at this
  have HS3 := hideL (hU3.src (t := 29) (e := 5) Try.underlying29)
  rw [HNB.out] at HS3
  obtain ⟨ys, hys⟩ : ∃ ys : List Value, b.map (Value.int .u8) = ys := ⟨_, rfl⟩
  have HYS := hideL hys
  rw [hys] at HS3
  have H3 := hideL (And.intro o3' b3)
  have c4 := (b3.cell (p := ⟨g', i * 3 + 2, none⟩) hgl2).trans c3
  have f4 := (frozen_of_block (j := i * 3 + 2) (b3.block g' hgl2)).trans f3
  have hgl3 : g' < w3.heap.size := Nat.lt_of_lt_of_le hgl2 b3.size
  obtain ⟨sa, sc, hv3, _, _⟩ : ∃ a c, v3 = .slice a nz c ∧ nz ≤ c ∧ c ≤ maxLen := by
    rcases o3'.2 with ⟨h1, h2⟩ | ⟨g, cap, cur, h1, _, _, h3, h4, _⟩
    · exact ⟨none, 0, by rw [h1, h2], by omega, by simp [maxLen]⟩
    · exact ⟨_, _, h1, h3, h4⟩
  subst hv3
  clear o3 o3' g3 b3 hal3 hU3 hys
  go_wp2_with (first
    | (at_builtin; go_loud (refine wpList_append_at _ rfl (.tmp 26) (.tmp 27) 29 29 rfl w3.heap.size 5 i0 (.int .u8 0) 1 1 Try.underlying29 hi hi0 hi1 hi2 rfl _ 0 [] rfl (own_nilB w3 5) (.slice ua nb uc) nb ys rfl HS3.out nb (.inr (by omega)) (Nat.le_refl _) (by unfold maxLen; omega) (by simp) ?_))
    | fail)
  intro v4 w4 o4 g4 a4
  have b4 : Below w3.heap.size w3 w4 := ((Below.refl _ _).alloc (Nat.le_refl _) _).grown g4 (by simp) (fun k hk => by simp [Value.ownBlock] at hk; omega)
  obtain ⟨ta, tc, hv4, _, _⟩ : ∃ a c, v4 = .slice a nb c ∧ nb ≤ c ∧ c ≤ maxLen := by
    rcases o4.2 with ⟨h1, h2⟩ | ⟨g, cap, cur, h1, _, _, h3, h4, _⟩
    · exact ⟨none, 0, by rw [h1, h2], by omega, by simp [maxLen]⟩
    · exact ⟨_, _, h1, h3, h4⟩
  subst hv4
  have hal4 : Below w4.heap.size w4 (w4.alloc (.cells #[.slice ta nb tc] 29)) := (Below.refl _ _).alloc (Nat.le_refl _) _
  have hr4 := src_oneB w4 (.slice ta nb tc) rfl
  have hb34 : Below w3.heap.size w3 (w4.alloc (.cells #[.slice ta nb tc] 29)) := b4.trans (hal4.mono b4.size)
  have hO3 : (w4.alloc (.cells #[.slice ta nb tc] 29)).ownsRow w2.heap.size 29 1 (.slice sa nz sc) nz xs := ownsRow_keep H3.out.1 (fun g hg => hb34.block g (ownsRow_lt H3.out.1 g hg).2)
  have H4 := hideL (And.intro hr4 (And.intro hO3 (And.intro hb34 (And.intro o4 b4))))
  have c5 := (hb34.cell (p := ⟨g', i * 3 + 2, none⟩) hgl3).trans c4
  have f5 := (frozen_of_block (j := i * 3 + 2) (hb34.block g' hgl3)).trans f4
  have hs23 : w2.heap.size ≤ (w4.alloc (.cells #[.slice ta nb tc] 29)).heap.size := Nat.le_trans H3.out.2.size hb34.size
  have hFin : ∀ v5 w5, w5.ownsRow w2.heap.size 29 1 v5 (nz + 1) (xs ++ [.slice ta nb tc]) → (w4.alloc (.cells #[.slice ta nb tc] 29)).grownBy w5 (Value.slice sa nz sc).ownBlock → QLM (w5.setCell ⟨g', i * 3 + 2, none⟩ v5) Y (nF G w) N (D'.set i (f, t, l ++ [b])) ∧ Kf G w (w5.setCell ⟨g', i * 3 + 2, none⟩ v5) ∧ w5.cell? ⟨g', i * 3 + 2, none⟩ = some (.slice za nz zc) ∧ w5.frozen? ⟨g', i * 3 + 2, none⟩ = false := fun v5 w5 o5 g5 => by
    obtain ⟨q2, hE, k2, hR2, hZ, hEi⟩ := H2.out
    have hv3 : ∀ g, (Value.slice sa nz sc).ownBlock = some g → w2.heap.size ≤ g ∧ g < w3.heap.size := fun g hg => ownsRow_lt H3.out.1 g hg
    have b25 : Below w2.heap.size w2 w5 := ((H3.out.2.trans (hb34.mono H3.out.2.size)).grown g5 hs23 (fun k hk => (hv3 k hk).1))
    have hgn : ∀ k, k < (w4.alloc (.cells #[.slice ta nb tc] 29)).heap.size → w3.heap.size ≤ k → w5.heap[k]? = (w4.alloc (.cells #[.slice ta nb tc] 29)).heap[k]? := fun k hk hle => g5.block k hk (fun e => by have := (hv3 k e.symm).2; omega)
    have hww2 : w.heap.size ≤ w2.heap.size := k2.size
    have hgu := hg
    have hY2 : Y < w.heap.size := hYl
    have ho4 : Own w4 w3.heap.size 5 (.slice ta nb tc) b := by unfold Own; rw [HNB.out, HYS.out]; simpa using o4
    have hRB4 : RB w5 (fun g => w3.heap.size ≤ g) (.slice ta nb tc) b := by
      have h1 := own_rb ho4 (Below.refl _ _)
      refine (h1.stay (fun g hg hlt => ⟨hg, hal4.block g hlt⟩)).stay (fun g hg hlt => ⟨hg, hgn g hlt hg⟩)
    have hzl : (Z ++ [((Value.slice ta nb tc), b)]).length = nz + 1 := by rw [List.length_append, HNZ.out]; rfl
    have hzm : (Z ++ [((Value.slice ta nb tc), b)]).map (·.1) = xs ++ [.slice ta nb tc] := by rw [List.map_append, HXS.out]; rfl
    have hRW : RW w5 (fun b => nF G w b ∧ b ≠ Y ∧ u'.ownBlock ≠ some b) v5 (Z ++ [((Value.slice ta nb tc), b)]) := by
      refine own_RW (base := w2.heap.size) (e := 29) (by rw [hzl, hzm]; exact o5) (fun z hz => ?_) (fun g hgg => ?_)
      · rcases List.mem_append.1 hz with hz | hz
        · exact (hR2.s z hz).stay (fun g hgg hlt => ⟨hgg, b25.block g hlt⟩)
        · rw [List.mem_singleton.1 hz]
          refine hRB4.stay (fun g hgg _ => ⟨⟨.inr (by have := H3.out.2.size; omega), by have := H3.out.2.size; omega, fun e => ?_⟩, rfl⟩)
          rw [hgu] at e
          have := Option.some.inj e
          have := H3.out.2.size
          omega
      · have h9 := (ownsRow_lt o5 g hgg).1
        refine ⟨.inr (by omega), by omega, fun e => ?_⟩
        rw [hgu] at e
        have := Option.some.inj e
        omega
    have q5 := q2.on b25
    have hset := ql_set q5 hEi hgu hRW
    refine ⟨⟨_, u', hset, ?_⟩, (k2.trans (Kf.of b25 (Nat.le_refl _))).setN (q2.oo g' hgu).1 _, ?_, ?_⟩
    · have := map_ml_set hE i f t v5 (Z ++ [((Value.slice ta nb tc), b)])
      rw [List.map_append, hZ] at this
      exact this
    · exact (b25.cell (p := ⟨g', i * 3 + 2, none⟩) hgl2).trans c3
    · exact (frozen_of_block (j := i * 3 + 2) (b25.block g' hgl2)).trans f3
  have HF := hideL hFin
  clear hFin hal4 hr4 hb34 hO3 o4 g4 b4 c4 f4
  go_wp2_with (first
    | (at_builtin; go_loud (refine wpList_append_at _ rfl (.tmp 25) (.tmp 29) 54 54 rfl w2.heap.size 29 j0 (.slice none 0 0) 1 24 Try.underlying54 hj hj0 hj1 hj2 rfl (.slice sa nz sc) nz xs rfl H4.out.2.1 (.slice (some ⟨w4.heap.size, 0, none⟩) 1 1) 1 [.slice ta nb tc] rfl H4.out.1 1 (.inr (by omega)) (Nat.le_refl _) (by unfold maxLen; omega) hs23 ?_))
    | fail)
  intro v5 w5 o5 g5 a5
  obtain ⟨h6, h7, c6, f6⟩ := HF.out v5 w5 o5 g5
  obtain ⟨va, vc, hv5, _, _⟩ : ∃ a c, v5 = .slice a (nz + 1) c ∧ nz + 1 ≤ c ∧ c ≤ maxLen := by
    rcases o5.2 with ⟨h1, h2⟩ | ⟨g, cap, cur, h1, _, _, h3, h4, _⟩
    · omega
    · exact ⟨_, _, h1, h3, h4⟩
  subst hv5
  have H7 := hideL (And.intro h6 h7)
  clear h6 h7 o5 g5 a5 HF
  go_wp2
  go_ret
  exact ⟨rfl, H7.out⟩

set_option maxHeartbeats 2000000 in
theorem rSend_any {w : World} {Y : Nat} {G : Nat → Prop} {N : Int} {D : List Lk} (h : QLM w Y G N D) (hl : D.length ≤ 900) (ht : tot D ≤ 1000) {f t : Int} {u : Value} {b : List Int} (hu : ∀ W, Kf G w W → Rd W u b) (hb : b.length ≤ 1000000) :
    Calls Try.prog 12 #[.pointer (some ⟨Y, 0, none⟩), .int .i64 f, .int .i64 t, u] w fun e w' => e = .returned (.int .i64 (sndD N D f t b).1) ∧ QLM w' Y (nF G w) N (sndD N D f t b).2 ∧ Kf G w w' := by
  unfold sndD
  by_cases hp : Pty N f t
  · rw [if_pos hp]
    by_cases h100 : 100 ≤ tot D
    · rw [if_pos h100]
      obtain ⟨E, v0, h, rfl⟩ := h
      rw [List.length_map] at hl
      have h1 := rFind_any h (by omega) hp
      obtain ⟨ha, _, htot, hlen⟩ := fnd_at f t (E.map ml)
      rw [List.length_map] at hlen
      rw [← htot] at h100 ht
      generalize (fnd f t (E.map ml)).2 = D' at *
      clear ha htot h
      go_enter Try.func12, Try.ntmps12
      go_wp2_with (first
        | (go_at_call 27; refine h1.mono ?_; rintro e w1 ⟨g', rfl, ⟨E', u', q, hg, hE⟩, k⟩; have hT := rTotal_any ⟨E', u', q, hE⟩ (by omega) (by omega); have HQ := hideL (And.intro q (And.intro hE k)); clear h1 q hE k)
        | fail)
      go_at_call 22
      refine hT.mono ?_
      rintro e w2 ⟨rfl, b2⟩
      have k1 : (tot D' : Int) ≥ 100 := by omega
      have HB := hideL b2
      clear hT b2
      go_wp2
      go_ret
      obtain ⟨q, hE, k⟩ := HQ.out
      exact ⟨rfl, ⟨_, _, q.on HB.out, hE⟩, k.trans (Kf.of HB.out (Nat.le_refl _))⟩
    · rw [if_neg h100]
      exact rSend_room h hl h100 hp hu hb
  · rw [if_neg hp]
    have h1 := rFind_bad h hp
    have H0 := hideL h
    clear h
    go_enter Try.func12, Try.ntmps12
    go_wp2_with (first
      | (go_at_call 27; refine h1.mono ?_; rintro e w1 ⟨rfl, rfl⟩; clear h1)
      | fail)
    go_ret
    exact ⟨rfl, H0.out.wide, Kf.refl _ _⟩
/-- What is there at a place. -/
def inL (l : List (List Int)) (c : Int) : Prop := 0 ≤ c ∧ c < (l.length : Int)
instance (l : List (List Int)) (c : Int) : Decidable (inL l c) := by unfold inL; exact inferInstance
def pkD (N : Int) (D : List Lk) (f t c : Int) : Bool × List Int := if Pty N f t ∧ inL (gt f t D) c then (true, (gt f t D).getD c.toNat []) else (false, [])
def fnD (N : Int) (D : List Lk) (f t : Int) : List Lk := if Pty N f t then (fnd f t D).2 else D
/-- A letter that was told, in memory that is none of the links'. -/
def QU (w : World) (Y : Nat) (G : Nat → Prop) (w0 : World) (N : Int) (D : List Lk) (u : Value) (b : List Int) : Prop := ∃ G1, QLM w Y G1 N D ∧ (∀ j, G1 j → nF G w0 j) ∧ RB w (fun g => ¬ G1 g) u b
theorem rbNil (w : World) (ok : Nat → Prop) : RB w ok (.slice none 0 0) [] := ⟨rd_nil w, fun g hg => by simp [Value.ownBlock] at hg⟩
theorem RW.at {w : World} {ok : Nat → Prop} {v : Value} {Z : Zb} (h : RW w ok v Z) {i : Nat} {z : Value × List Int} (hz : Z[i]? = some z) : ∃ g cap, v = .slice (some ⟨g, 0, none⟩) Z.length cap ∧ Z.length ≤ cap ∧ g < w.heap.size ∧ w.cell? ⟨g, i, none⟩ = some z.1 ∧ RB w ok z.1 z.2 := by
  rcases h.f with ⟨_, rfl⟩ | ⟨g, cap, rfl, h1, _, _, h2, h3⟩
  · simp at hz
  · exact ⟨g, cap, rfl, h1, h2, h3 i z hz, h.s z (List.mem_of_getElem? hz)⟩
set_option maxRecDepth 100000 in
set_option maxHeartbeats 2000000 in
theorem rPeek_off {w : World} {Y : Nat} {G : Nat → Prop} {N : Int} {D : List Lk} (h : QLM w Y G N D) (hl : D.length ≤ 900) {f t : Int} (hgl : Pty N f t → (gt f t D).length ≤ 100000) (c : Int) (hn : ¬ (Pty N f t ∧ inL (gt f t D) c)) :
    Calls Try.prog 16 #[.pointer (some ⟨Y, 0, none⟩), .int .i64 f, .int .i64 t, .int .i64 c] w fun e w' => e = .returned (.tuple #[.slice none 0 0, .bool false]) ∧ QLM w' Y (nF G w) N (fnD N D f t) ∧ Kf G w w' := by
  unfold fnD
  by_cases hp : Pty N f t
  · rw [if_pos hp]
    replace hgl := hgl hp
    obtain ⟨E, v0, h, rfl⟩ := h
    rw [List.length_map] at hl
    have h1 := rFind_any h (by omega) hp
    have ha := (fnd_at f t (E.map ml)).1
    have HA := hideL ha
    have hc : ¬ inL (gt f t (E.map ml)) c := fun e => hn ⟨hp, e⟩
    generalize (fnd f t (E.map ml)).1 = i at *
    generalize (fnd f t (E.map ml)).2 = D' at *
    generalize gt f t (E.map ml) = l at *
    unfold inL at hc
    clear h ha hn
    have HAT := hideL (fun w1 g' E' u' (q : QL w1 Y (nF G w) N E' u') (hg : u'.ownBlock = some g') (hE : E'.map ml = D') => QLM.at q hE hg HA.out)
    obtain ⟨m, hm⟩ : ∃ m, l.length = m := ⟨_, rfl⟩
    have HM := hideL hm
    rw [hm] at hc hgl
    clear hm
    by_cases h0 : c < 0
    · clear hc
      go_enter Try.func16, Try.ntmps16
      go_wp2_with (first
        | (go_at_call 27; refine h1.mono ?_; rintro e w1 ⟨g', rfl, ⟨E', u', q, hg, hE⟩, k⟩; have HQ := hideL (And.intro q (And.intro hE k)); clear h1 q hE k)
        | fail)
      obtain ⟨q, hE, k⟩ := HQ.out
      go_ret2
      exact ⟨rfl, ⟨_, _, q, hE⟩, k⟩
    · have h2 : c ≥ (m : Int) := by omega
      clear hc
      go_enter Try.func16, Try.ntmps16
      go_wp2_with (first
        | (go_at_call 27; refine h1.mono ?_; rintro e w1 ⟨g', rfl, ⟨E', u', q, hg, hE⟩, k⟩; obtain ⟨v, Z, cap, hu, _, hZ, c2, _, hR, _⟩ := HAT.out w1 g' E' u' q hg hE; obtain ⟨za, zc, hv, _, _⟩ := hR.form; have hZl := congrArg List.length hZ; rw [List.length_map, HM.out] at hZl; rw [hv, hZl] at c2; have HQ := hideL (And.intro q (And.intro hE k)); clear h1 q hg hE k hu hZ hR hv hZl)
        | fail)
      obtain ⟨q, hE, k⟩ := HQ.out
      go_ret2
      exact ⟨rfl, ⟨_, _, q, hE⟩, k⟩
  · rw [if_neg hp]
    have h1 := rFind_bad h hp
    have H0 := hideL h
    clear h hn
    go_enter Try.func16, Try.ntmps16
    go_wp2_with (first
      | (go_at_call 27; refine h1.mono ?_; rintro e w1 ⟨rfl, rfl⟩; clear h1)
      | fail)
    go_ret2
    exact ⟨rfl, H0.out.wide, Kf.refl _ _⟩
set_option maxRecDepth 100000 in
set_option maxHeartbeats 2000000 in
theorem rPeek_on {w : World} {Y : Nat} {G : Nat → Prop} {N : Int} {D : List Lk} (h : QLM w Y G N D) (hl : D.length ≤ 900) {f t : Int} (hgl : (gt f t D).length ≤ 100000) (hp : Pty N f t) {c : Nat} {b : List Int} (hc : (gt f t D)[c]? = some b) (hb : b.length ≤ 1000000) :
    Calls Try.prog 16 #[.pointer (some ⟨Y, 0, none⟩), .int .i64 f, .int .i64 t, .int .i64 (c : Int)] w fun e w' => ∃ u, e = .returned (.tuple #[u, .bool true]) ∧ QU w' Y G w N (fnd f t D).2 u b ∧ Kf G w w' := by
  obtain ⟨E, v0, h, rfl⟩ := h
  rw [List.length_map] at hl
  have h1 := rFind_any h (by omega) hp
  have ha := (fnd_at f t (E.map ml)).1
  have HA := hideL ha
  generalize (fnd f t (E.map ml)).1 = i at *
  generalize (fnd f t (E.map ml)).2 = D' at *
  generalize gt f t (E.map ml) = l at *
  clear h ha
  have hcl : c < l.length := (List.getElem?_eq_some_iff.1 hc).1
  obtain ⟨i0, hi, hi0, hi1, hi2⟩ := inf_getL Try.info5
  have HAT := hideL (fun w1 g' E' u' (q : QL w1 Y (nF G w) N E' u') (hg : u'.ownBlock = some g') (hE : E'.map ml = D') => QLM.at q hE hg HA.out)
  obtain ⟨m, hm⟩ : ∃ m, l.length = m := ⟨_, rfl⟩
  have HM := hideL hm
  rw [hm] at hcl hgl
  have k1 : ¬ (c : Int) < 0 := by omega
  have k2 : ¬ (c : Int) ≥ (m : Int) := by omega
  have k3 : (0 : Int) ≤ (c : Int) := by omega
  have k4 : (c : Int) < (m : Int) := by omega
  have hZc : ∀ Z : Zb, Z.map (·.2) = l → ∃ z, Z[c]? = some z ∧ z.2 = b := fun Z hZ => by
    rw [← hZ, List.getElem?_map] at hc
    cases hq : Z[c]? with
    | none => rw [hq] at hc; cases hc
    | some z =>
      rw [hq] at hc
      exact ⟨z, rfl, Option.some.inj hc⟩
  have HZC := hideL hZc
  have k5 : ¬ m ≤ c := by omega
  obtain ⟨nb, hnb⟩ : ∃ n, b.length = n := ⟨_, rfl⟩
  have HNB := hideL hnb
  obtain ⟨ys, hys⟩ : ∃ ys : List Value, b.map (Value.int .u8) = ys := ⟨_, rfl⟩
  have HYS := hideL hys
  rw [hnb] at hb
  clear hm hZc hc hnb hys
  go_enter Try.func16, Try.ntmps16
  go_wp2_with (first
    | (go_at_call 27; refine h1.mono ?_; rintro e w1 ⟨g', rfl, ⟨E', u', q, hg, hE⟩, k⟩; obtain ⟨v, Z, cap, hu, _, hZ, c2, _, hR, hgl'⟩ := HAT.out w1 g' E' u' q hg hE; obtain ⟨z, hz, hzb⟩ := HZC.out Z hZ; obtain ⟨gz, zc, hv, hzc, hgz, cz, hrb⟩ := hR.at hz; have hZl := congrArg List.length hZ; rw [List.length_map, HM.out] at hZl; rw [hv, hZl] at c2; rw [hzb] at hrb; obtain ⟨ba, bc, hbv, _⟩ := id hrb.r; rw [hbv] at cz hrb; have hal := (Below.refl w1.heap.size w1).alloc (Nat.le_refl _) (.cells #[] 5); have hsr := (hrb.stay (ok' := fun _ => True) (fun g _ hlt => ⟨trivial, hal.block g hlt⟩)).r.src (t := 29) (e := 5) Try.underlying29; rw [HNB.out] at cz hrb hsr; rw [HYS.out] at hsr; have HSR := hideL hsr; have HQ := hideL (And.intro q (And.intro hE k)); clear h1 q hg hE k hu hZ hR hv hZl hz hzb hbv hzc hrb hsr hal)
    | (at_builtin; go_loud (refine wpList_append_at _ rfl (.tmp 30) (.tmp 37) 29 29 rfl w1.heap.size 5 i0 (.int .u8 0) 1 1 Try.underlying29 hi hi0 hi1 hi2 rfl _ 0 [] rfl (own_nilB w1 5) (.slice ba nb bc) nb ys rfl HSR.out nb (.inr (by omega)) (Nat.le_refl _) (by unfold maxLen; omega) (by simp) ?_))
    | fail)
  intro v3 w3 o3 g3 a3
  have b3 : Below w1.heap.size w1 w3 := ((Below.refl _ _).alloc (Nat.le_refl _) _).grown g3 (by simp) (fun k hk => by simp [Value.ownBlock] at hk; omega)
  have ho3 : Own w3 w1.heap.size 5 v3 b := by unfold Own; rw [HNB.out, HYS.out]; simpa using o3
  have hU := hideL (own_rb ho3 (Below.refl _ _))
  have HB3 := hideL b3
  clear o3 g3 a3 b3 ho3
  go_wp2
  obtain ⟨q, hE, k⟩ := HQ.out
  go_ret2
  refine ⟨_, rfl, ⟨fun j => nF G w j ∧ j < w1.heap.size, ⟨_, _, q.keep (fun b hb hlt => HB3.out.block b hlt) (fun j hj hG => ⟨hG, hj⟩), hE⟩, fun j hj => hj.1, hU.out.stay (fun g hg _ => ⟨fun e => by have := e.2; omega, rfl⟩)⟩, k.trans (Kf.of HB3.out (Nat.le_refl _))⟩
theorem fnD_on {N : Int} {D : List Lk} {f t : Int} (hp : Pty N f t) : fnD N D f t = (fnd f t D).2 := if_pos hp
theorem inL_nat {l : List (List Int)} {c : Int} (h : inL l c) : ∃ k : Nat, c = (k : Int) ∧ k < l.length ∧ l[k]? = some (l.getD k []) := by
  obtain ⟨h1, h2⟩ := h
  refine ⟨c.toNat, by omega, by omega, ?_⟩
  rw [List.getElem?_eq_getElem (by omega)]
  simp [List.getD, List.getElem?_eq_getElem (show c.toNat < l.length by omega)]
/-- Peek, whatever comes. -/
theorem rPeek_any {w : World} {Y : Nat} {G : Nat → Prop} {N : Int} {D : List Lk} (h : QLM w Y G N D) (hl : D.length ≤ 900) {f t : Int} (hgl : Pty N f t → (gt f t D).length ≤ 100000) (hb : Pty N f t → ∀ b ∈ gt f t D, b.length ≤ 1000000) (c : Int) :
    Calls Try.prog 16 #[.pointer (some ⟨Y, 0, none⟩), .int .i64 f, .int .i64 t, .int .i64 c] w fun e w' => ∃ u, e = .returned (.tuple #[u, .bool (pkD N D f t c).1]) ∧ QU w' Y G w N (fnD N D f t) u (pkD N D f t c).2 ∧ Kf G w w' := by
  by_cases hi : Pty N f t ∧ inL (gt f t D) c
  · have e : pkD N D f t c = (true, (gt f t D).getD c.toNat []) := if_pos hi
    rw [e, fnD_on hi.1]
    obtain ⟨k, rfl, hk, hk2⟩ := inL_nat hi.2
    rw [Int.toNat_natCast]
    exact rPeek_on h hl (hgl hi.1) hi.1 hk2 (hb hi.1 _ (List.mem_of_getElem? hk2))
  · have e : pkD N D f t c = (false, []) := if_neg hi
    rw [e]
    refine (rPeek_off h hl hgl c hi).mono ?_
    rintro e w1 ⟨rfl, q, k⟩
    exact ⟨_, rfl, ⟨_, q, fun j hj => hj, rbNil _ _⟩, k⟩
def dbD (N : Int) (D : List Lk) (f t c : Int) : Int × List Lk := if (pkD N D f t c).1 = true then sndD N (fnD N D f t) f t (pkD N D f t c).2 else (5, fnD N D f t)
set_option maxHeartbeats 2000000 in
theorem rDouble_any {w : World} {Y : Nat} {G : Nat → Prop} {N : Int} {D : List Lk} (h : QLM w Y G N D) (hl : D.length ≤ 800) (ht : tot D ≤ 1000) {f t : Int} (hgl : Pty N f t → (gt f t D).length ≤ 100000) (hb : Pty N f t → ∀ b ∈ gt f t D, b.length ≤ 1000000) (c : Int) :
    Calls Try.prog 18 #[.pointer (some ⟨Y, 0, none⟩), .int .i64 f, .int .i64 t, .int .i64 c] w fun e w' => e = .returned (.int .i64 (dbD N D f t c).1) ∧ QLM w' Y (nF G w) N (dbD N D f t c).2 ∧ Kf G w w' := by
  have h1 := rPeek_any h (by omega) hgl hb c
  have hlen : (fnD N D f t).length ≤ 900 := by
    unfold fnD
    split
    · have := (fnd_at f t D).2.2.2
      omega
    · omega
  have htt : tot (fnD N D f t) ≤ 1000 := by
    unfold fnD
    split
    · have := (fnd_at f t D).2.2.1
      omega
    · exact ht
  have hbl : (pkD N D f t c).2.length ≤ 1000000 := by
    unfold pkD
    split
    · rename_i hi
      obtain ⟨k, rfl, hk, hk2⟩ := inL_nat hi.2
      rw [Int.toNat_natCast]
      exact hb hi.1 _ (List.mem_of_getElem? hk2)
    · simp
  unfold dbD
  generalize fnD N D f t = D1 at *
  generalize (pkD N D f t c).2 = b at *
  cases hpk : (pkD N D f t c).1 with
  | false =>
    rw [hpk] at h1
    rw [if_neg (by simp)]
    clear h hpk hb
    go_enter Try.func18, Try.ntmps18
    go_wp2_with (first
      | (go_at_call 16; refine h1.mono ?_; rintro e w1 ⟨u, rfl, q, k⟩; have HQ := hideL (And.intro q k); clear h1 q k)
      | fail)
    go_ret
    obtain ⟨⟨G1, q, hG, _⟩, k⟩ := HQ.out
    exact ⟨rfl, q.keep (fun _ _ _ => rfl) (fun j _ hj => hG j hj), k⟩
  | true =>
    rw [hpk] at h1
    rw [if_pos rfl]
    have hsd : ∀ w1 u, QU w1 Y G w N D1 u b → Kf G w w1 → Calls Try.prog 12 #[.pointer (some ⟨Y, 0, none⟩), .int .i64 f, .int .i64 t, u] w1 fun e w' => e = .returned (.int .i64 (sndD N D1 f t b).1) ∧ QLM w' Y (nF G w) N (sndD N D1 f t b).2 ∧ Kf G w w' := fun w1 u hq k => by
      obtain ⟨G1, q, hG, hu⟩ := hq
      refine (rSend_any q hlen htt (fun W hk => (hu.stay (ok' := fun _ => True) (fun g hg hlt => ⟨trivial, hk.block g hlt hg⟩)).r) hbl).mono ?_
      rintro e w2 ⟨rfl, q2, k2⟩
      exact ⟨rfl, q2.keep (fun _ _ _ => rfl) (fun j _ hj => hj.elim (hG j) (fun e => .inr (Nat.le_trans k.size e))), k.transN (k2.mono hG)⟩
    generalize sndD N D1 f t b = R at *
    have HSD := hideL hsd
    clear h hpk hb hsd
    go_enter Try.func18, Try.ntmps18
    go_wp2_with (first
      | (go_at_call 16; refine h1.mono ?_; rintro e w1 ⟨u, rfl, q, k⟩; have h2 := HSD.out w1 u q k; clear h1 q k)
      | (go_at_call 12; refine h2.mono ?_; rintro e w2 ⟨rfl, q, k⟩; have HQ := hideL (And.intro q k); clear h2 q k)
      | fail)
    go_ret
    exact ⟨rfl, HQ.out⟩
end Go.Proofs.Ytgpgbingmeehdaa
