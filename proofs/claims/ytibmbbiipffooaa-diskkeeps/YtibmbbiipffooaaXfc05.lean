import Derived.Test.YtibmbbiipffooaaXfc04
import Derived.BigQuiet
import Derived.Deep.QuietTactic
import Derived.Deep.RegionLaw
import Derived.Deep.Cut

/- The document's disk: Drop. -/
namespace Go.Proofs.Ytibmbbiipffooaa
open Go.RowKit Go.Lib Go.Maps
set_option linter.unusedSimpArgs false
set_option linter.unusedVariables false
attribute [local go_sem ↓] Go.wp_at_zero Go.wp_at_succ

theorem ownf_form {w : World} {base e k n : Nat} {v : Value} {xs : List Value} (h : w.ownsRow base e k v n xs) : ∃ a cap, v = .slice a n cap ∧ n ≤ cap ∧ cap ≤ maxLen := by
  rcases h.2 with ⟨h1, h2⟩ | ⟨g, cap, cur, h1, _, _, h3, h4, _⟩
  · exact ⟨none, 0, by rw [h1, h2], by omega, by simp [maxLen]⟩
  · exact ⟨_, _, h1, h3, h4⟩
theorem seg_info : (Try.prog.info? 56).map (fun i => (i.zero, i.size, i.bytes)) = some (some (.agg #[.int .i64 0, .slice none 0 0, .int .i64 0]), 3, 40) := by kernel_rfl
theorem seg_inf : ∃ i, Try.prog.info? 56 = some i ∧ i.zero = some (.agg #[.int .i64 0, .slice none 0 0, .int .i64 0]) ∧ i.size = 3 ∧ i.bytes = 40 := by
  have h := seg_info
  cases hq : Try.prog.info? 56 with
  | none => rw [hq] at h; cases h
  | some i =>
    rw [hq] at h
    simp only [Option.map_some, Option.some.injEq, Prod.mk.injEq] at h
    exact ⟨i, rfl, h.1, h.2.1, h.2.2⟩
theorem celE_take (E : List (Int × Sv)) (i : Nat) : (celE E).take (i * 3) = celE (E.take i) := by
  by_cases h : i ≤ E.length
  · conv => lhs; rw [← List.take_append_drop i E, celE_app]
    rw [List.take_left' (by rw [celE_len, List.length_take]; omega)]
  · rw [List.take_of_length_le (by rw [celE_len]; omega), List.take_of_length_le (by omega)]
theorem celE_drop (E : List (Int × Sv)) (i : Nat) : (celE E).drop (i * 3) = celE (E.drop i) := by
  by_cases h : i ≤ E.length
  · conv => lhs; rw [← List.take_append_drop i E, celE_app]
    rw [List.drop_left' (by rw [celE_len, List.length_take]; omega)]
  · rw [List.drop_of_length_le (by rw [celE_len]; omega), List.drop_of_length_le (by omega)]
    rfl
/-- All cells of the row. -/
theorem QR.cells {w : World} {Y g cap n : Nat} {G : Nat → Prop} {E : List (Int × Sv)} (h : QR w Y G (.slice (some ⟨g, 0, none⟩) n cap) E) : ∀ j u, (celE E)[j]? = some u → w.cell? ⟨g, j, none⟩ = some u := fun j u hj => by
  have := World.ownsRow.cells h.o (g := g) rfl j u hj
  rwa [add_plain, Nat.zero_add] at this
theorem QR.one {w : World} {Y : Nat} {G : Nat → Prop} {Lv : Value} {E : List (Int × Sv)} (h : QR w Y G Lv E) : ∀ u ∈ celE E, u.oneCell' = true := oc_E (fun x hx => by
  obtain ⟨a, c, e, _, _⟩ := slice_form (h.s x hx).1
  rw [e]
  rfl)
/-- The first segments, as what is appended. -/
theorem src_take {w : World} {g i c : Nat} {E : List (Int × Sv)} (hc : ∀ j u, (celE E)[j]? = some u → w.cell? ⟨g, j, none⟩ = some u) (h1 : ∀ u ∈ celE E, u.oneCell' = true) (hi : i ≤ E.length) : Src Try.prog 3 49 (.slice (some ⟨g, 0, none⟩) i c) i (celE (E.take i)) w := by
  refine Src.ofSlice _ Try.underlying49 _ i c _ (by rw [celE_len, List.length_take]; omega) (fun j u hj => ?_) (fun u hu => h1 u ?_)
  · rw [add_plain, Nat.zero_add]
    refine hc j u ?_
    rw [← celE_take, List.getElem?_take] at hj
    split at hj
    · exact hj
    · cases hj
  · rw [← celE_take] at hu
    exact List.mem_of_mem_take hu
theorem src_drop {w : World} {g i c : Nat} {E : List (Int × Sv)} (hc : ∀ j u, (celE E)[j]? = some u → w.cell? ⟨g, j, none⟩ = some u) (h1 : ∀ u ∈ celE E, u.oneCell' = true) (hi : i ≤ E.length) : Src Try.prog 3 49 (.slice (some ⟨g, i * 3, none⟩) (E.length - i) c) (E.length - i) (celE (E.drop i)) w := by
  refine Src.ofSlice _ Try.underlying49 _ _ c _ (by rw [celE_len, List.length_drop]) (fun j u hj => ?_) (fun u hu => h1 u ?_)
  · rw [add_plain]
    refine hc _ u ?_
    rw [← celE_drop, List.getElem?_drop] at hj
    exact hj
  · rw [← celE_drop] at hu
    exact List.mem_of_mem_drop hu
theorem src_none {w : World} {g c : Nat} : Src Try.prog 3 49 (.slice (some ⟨g, 0, none⟩) 0 c) 0 [] w := Src.ofSlice _ Try.underlying49 _ 0 c _ rfl (fun j u hj => by simp at hj) (fun u hu => by simp at hu)
set_option maxRecDepth 100000 in
set_option maxHeartbeats 4000000 in
theorem qdrop_any {w : World} {Y : Nat} {G : Nat → Prop} {d : Dk} {n : Int} (h0 : QD w Y G d) (hfu : d.fuse ≤ 9223372036854775807) (hl : d.L.length ≤ 100000) :
    Calls Try.prog 22 #[.pointer (some ⟨Y, 0, none⟩), .int .i64 n] w fun e w' => e = .returned (.int .i64 (opM d n (drpF d n)).2) ∧ QD w' Y (nF G w) (opM d n (drpF d n)).1 ∧ Kf G w w' := by
  obtain ⟨Lv, E, h⟩ := h0
  have hf := qfind_any h n
  have hbn := qburn_any h.clip hfu
  have hw : QD w Y (nF G w) d := ⟨Lv, E, h.keep (fun _ _ _ => rfl) (fun j _ hj => .inl hj)⟩
  obtain ⟨g1, g2, g3, g4⟩ := id h
  have hYw := g4.lt
  obtain ⟨c3, f3⟩ := g4 3 _ rfl
  have hlk := mmE_lk n E
  rw [g2] at hlk
  by_cases hd : d.dead = true
  · rw [opM_dead hd]
    rw [hd] at c3
    clear h g2 g3 g4 hlk hbn
    go_enter Try.func22, Try.ntmps22
    go_wp2_with (first
      | (go_at_call 38; refine hf.mono ?_; rintro e w2 ⟨rfl, rfl⟩; clear hf)
      | fail)
    go_ret
    exact ⟨rfl, hw, Kf.refl _ _⟩
  have hd : d.dead = false := by simpa using hd
  rw [hd] at c3
  cases hq : lk n E with
  | none =>
    rw [hq] at hlk
    rw [opM_none hd hlk]
    rw [fI_no 0 hq] at hf
    clear h g2 g3 g4 hlk hq hbn
    go_enter Try.func22, Try.ntmps22
    go_wp2_with (first
      | (go_at_call 38; refine hf.mono ?_; rintro e w2 ⟨rfl, rfl⟩; clear hf)
      | fail)
    go_ret
    exact ⟨rfl, hw, Kf.refl _ _⟩
  | some s =>
    rw [hq] at hlk
    simp only [Option.map_some] at hlk
    obtain ⟨i, hi, e1, e2⟩ := fI_at 0 hq
    rw [e1, Nat.zero_add] at hf
    have k3 : ¬ (i : Int) < 0 := by omega
    by_cases hz : d.fuse = 0
    · rw [opM_burn hd hlk hz]
      rw [decide_eq_false (by simpa using hz)] at hbn
      clear h g2 g3 g4 hlk hq e1 e2
      go_enter Try.func22, Try.ntmps22
      go_wp2_with (first
        | (go_at_call 38; refine hf.mono ?_; rintro e w2 ⟨rfl, rfl⟩; clear hf)
        | (go_at_call 37; refine hbn.mono ?_; rintro e w2 ⟨rfl, q1, q2⟩; clear hbn)
        | fail)
      go_ret
      exact ⟨rfl, ⟨Lv, E, q1.keep (fun _ _ _ => rfl) (fun j _ hj => .inl hj.1)⟩, q2.wide⟩
    · rw [opM_ok hd hlk hz]
      rw [decide_eq_true hz] at hbn
      obtain ⟨D, hD⟩ : ∃ D, drpF d n s.2 = D := ⟨_, rfl⟩
      rw [hD]
      have HD := hideD hD
      have hlE : E.length ≤ 100000 := by rw [← g2] at hl; simpa [mmE] using hl
      have hdl : dl n E = E.take i ++ E.drop (i + 1) := by
        have hr := List.pairwise_iff_getElem.1 g3.r
        conv => lhs; rw [← List.take_append_drop i E, List.drop_eq_getElem_cons hi, e2]
        unfold dl
        rw [List.filter_append, List.filter_cons]
        simp only [decide_true, Bool.not_true]
        congr 1
        · refine List.filter_eq_self.2 (fun x hx => ?_)
          obtain ⟨j, hj, rfl⟩ := List.getElem_of_mem hx
          rw [List.length_take] at hj
          have := hr j i (by omega) hi (by omega)
          rw [e2] at this
          simp at this ⊢
          omega
        · refine List.filter_eq_self.2 (fun x hx => ?_)
          obtain ⟨j, hj, rfl⟩ := List.getElem_of_mem hx
          rw [List.length_drop] at hj
          have := hr i (i + 1 + j) hi (by omega) (by omega)
          rw [e2] at this
          simp at this ⊢
          omega
      have HE := hideD (And.intro hdl (And.intro g2 g3.r))
      obtain ⟨g, cap, rfl, hlc, hcm, hgl, dd0, dd1, dd2⟩ := g3.at hi
      clear dd0 dd1 dd2
      have hgw := g3.oo g rfl
      unfold maxLen at hcm
      clear h g2 g3 g4 hlk hq e1 e2 hD hw hdl
      obtain ⟨i0, hi0, hz0, hz1, hz2⟩ := seg_inf
      go_enter Try.func22, Try.ntmps22
      go_upto_region 8 with (first
        | (go_at_call 38; refine hf.mono ?_; rintro e w2 ⟨rfl, rfl⟩; clear hf)
        | (go_at_call 37; refine hbn.mono ?_; rintro e w1 ⟨rfl, q1, q2⟩; clear hbn)
        | fail)
      have hsz := q2.size
      obtain ⟨p1, p2, p3, p4⟩ := q1
      obtain ⟨c0, f0⟩ := p4 0 _ rfl
      have hcl := p3.cells
      have hone := p3.one
      have HS1 := hideD (show ∀ W, Below w1.heap.size w1 W → Src Try.prog 3 49 (.slice (some ⟨g, 0, none⟩) i cap) i (celE (E.take i)) W from fun W hb => src_take (fun j u hj => (hb.cell (p := ⟨g, j, none⟩) (by show g < _; omega)).trans (hcl j u hj)) hone (by omega))
      obtain ⟨ln, hln⟩ : ∃ k, E.length = k := ⟨_, rfl⟩
      have hil : i < ln := by omega
      rw [hln] at c0 hlc hlE
      have i1 : (0 : Int) ≤ (i : Int) := by omega
      have i2 : (i : Int) < (ln : Int) := by omega
      have i4 : ¬ (i : Int) > (cap : Int) := by omega
      have i5 : (i : Int) ≤ (cap : Int) := by omega
      have i6 : ¬ (i : Int) + 1 > (ln : Int) := by omega
      have i7 : (i : Int) + 1 ≤ (ln : Int) := by omega
      have i8 : (ln : Int) ≤ (cap : Int) := by omega
      have i9 : IntKind.i64.wrap ((i : Int) + 1) = (i : Int) + 1 := by rw [IntKind.wrap_i64]; omega
      have HLN := hideD hln
      have HCL := hideD hcl
      have HONE := hideD hone
      have HP := hideD (And.intro p1 (And.intro p2 (And.intro p3 (And.intro p4 q2))))
      have hal : Below w1.heap.size w1 (w1.alloc (.cells #[] 56)).drew := ((Below.refl _ _).alloc (Nat.le_refl _) _).drew
      have hown : (w1.alloc (.cells #[] 56)).drew.ownsRow w1.heap.size 56 3 (.slice (some ⟨w1.heap.size, 0, none⟩) 0 0) 0 [] := World.ownsRow_made w1 #[] 0 (Nat.le_refl _) (Nat.zero_le _) rfl
      have C1 : (w1.alloc (.cells #[] 56)).drew.cell? ⟨Y, 0, none⟩ = some (.slice (some ⟨g, 0, none⟩) ln cap) := (hal.cell (p := ⟨Y, 0, none⟩) (by show Y < _; omega)).trans c0
      clear p1 p2 p3 p4 q2 hcl hone hi hln
      have hga1 : ∀ (wa : World), (w1.alloc (.cells #[] 56)).drew.grownBy wa (Value.slice (some ⟨w1.heap.size, 0, none⟩) 0 0).ownBlock → Below w1.heap.size w1 wa := fun wa hg => hal.grown hg (by show w1.heap.size ≤ (w1.alloc _).heap.size; simp) (fun k hk => by have : w1.heap.size = k := Option.some.inj hk; omega)
      have j0 : (0 : Int) ≤ (i : Int) + 1 := by omega
      obtain ⟨a2, ha2⟩ : ∃ a2, (if cap = i + 1 then some (⟨g, 0, none⟩ : Addr) else some ⟨g, (i + 1) * 3, none⟩) = a2 := ⟨_, rfl⟩
      have HS2 := hideD (show ∀ W, Below w1.heap.size w1 W → Src Try.prog 3 49 (.slice a2 (ln - (i + 1)) (cap - (i + 1))) (ln - (i + 1)) (celE (E.drop (i + 1))) W from fun W hb => by
        have hl2 := HLN.out
        rw [← ha2]
        by_cases hc : cap = i + 1
        · rw [if_pos hc]
          have e1 : ln - (i + 1) = 0 := by omega
          have e2 : E.drop (i + 1) = [] := List.drop_eq_nil_of_le (by omega)
          rw [e1, e2]
          exact src_none
        · rw [if_neg hc]
          have := src_drop (w := W) (g := g) (i := i + 1) (c := cap - (i + 1)) (E := E) (fun j u hj => (hb.cell (p := ⟨g, j, none⟩) (by show g < _; omega)).trans (HCL.out j u hj)) HONE.out (by omega)
          rw [hl2] at this
          exact this)
      have HFIN := hideD (show ∀ (vb : Value) (wb : World), wb.ownsRow w1.heap.size 56 3 vb (i + (ln - (i + 1))) (celE (E.take i) ++ celE (E.drop (i + 1))) → Below w1.heap.size w1 wb → wb.cell? ⟨Y, 0, none⟩ = some (.slice (some ⟨g, 0, none⟩) ln cap) ∧ wb.frozen? ⟨Y, 0, none⟩ = false ∧ QD (wb.setCell ⟨Y, 0, none⟩ vb) Y (nF G w) D ∧ Kf G w (wb.setCell ⟨Y, 0, none⟩ vb) from fun vb wb hO hb => by
        obtain ⟨p1, p2, p3, p4, q2⟩ := HP.out
        obtain ⟨hdl, hmm, hris⟩ := HE.out
        have hl2 := HLN.out
        have hset : ∀ b, b ≠ Y → (wb.setCell ⟨Y, 0, none⟩ vb).heap[b]? = wb.heap[b]? := fun b hb => Below.heap_setCell _ _ _ _ (fun e => hb e)
        have hlo := World.ownsRow.lt hO
        have hlen : (dl n E).length = i + (ln - (i + 1)) := by rw [hdl, List.length_append, List.length_take, List.length_drop]; omega
        refine ⟨(hb.cell (p := ⟨Y, 0, none⟩) (by show Y < _; omega)).trans c0, (hb.frozen (p := ⟨Y, 0, none⟩) (by show Y < _; omega)).trans f0, ⟨vb, dl n E, .inl g1, ?_, ⟨ris_dl hris, ?_, fun q hq => ?_, fun x hx => ?_⟩, ?_⟩, ?_⟩
        · rw [← mmE_dl, hmm, ← HD.out]
          rfl
        · rw [hlen, hdl, celE_app]
          exact ownsRow_keep ⟨hO.1, hO.2.imp id (fun ⟨a, b, c, e1, e2, e3⟩ => ⟨a, b, c, e1, Nat.zero_le _, e3⟩)⟩ (fun q hq => hset q (by have := (hlo q hq).1; omega))
        · have := (hlo q hq).1
          exact ⟨.inr (by omega), by omega⟩
        · obtain ⟨h1, h2⟩ := p3.s x (mem_dl.1 hx).1
          have hxl := fun q hq => (ownsRow_lt h1 q hq).2
          refine ⟨ownD_keep h1 (fun q hq => (hset q (h2 q hq).2.1).trans (hb.block q (hxl q hq))), fun q hq => ⟨.inl (h2 q hq).1.1, (h2 q hq).2.1, fun e => ?_⟩⟩
          have := (hlo q e).1
          have := hxl q hq
          omega
        · have := ((p4.on hb).set (i := 0) (by simp) vb)
          rw [← HD.out]
          exact this
        · exact ((q2.wide).trans (Kf.of hb (Nat.le_refl _))).set g1 _)
      clear hgw
      go_region_law (first
        | (refine step_append_at _ (by rfl) (.tmp 22) (.tmp 28) 49 49 (by rfl) w1.heap.size 56 i0 (.agg #[.int .i64 0, .slice none 0 0, .int .i64 0]) 3 40 Try.underlying49 hi0 hz0 hz1 hz2 rfl (.slice (some ⟨w1.heap.size, 0, none⟩) 0 0) 0 [] (by rfl) hown _ i (celE (E.take i)) (by rfl) (HS1.out _ hal) i (.inr (by omega)) (Nat.le_refl _) (by unfold maxLen; omega) (by show w1.heap.size ≤ (w1.alloc _).heap.size; simp) ?_; intro va wa hOa hga hata; rw [Nat.zero_add, List.nil_append] at hOa; obtain ⟨a1, c1, rfl, hl1, hm1⟩ := ownf_form hOa; have hba := hga1 wa hga; have C2 := (hba.cell (p := ⟨Y, 0, none⟩) (by show Y < _; omega)).trans c0)
        | (refine step_append_at _ (by rfl) (.tmp 29) (.tmp 36) 49 49 (by rfl) w1.heap.size 56 i0 (.agg #[.int .i64 0, .slice none 0 0, .int .i64 0]) 3 40 Try.underlying49 hi0 hz0 hz1 hz2 rfl (.slice a1 i c1) i (celE (E.take i)) (by rfl) hOa _ (ln - (i + 1)) (celE (E.drop (i + 1))) (by rfl) (HS2.out _ hba) (ln - (i + 1)) (.inr (by omega)) (Nat.le_refl _) (by unfold maxLen; omega) hba.size ?_; intro vb wb hOb hgb hatb; obtain ⟨a3, c3', rfl, hl3, hm3⟩ := ownf_form hOb; obtain ⟨C3, F3, HZ⟩ := HFIN.out _ _ hOb (hba.grown hgb hba.size (fun k hk => (World.ownsRow.lt hOa k hk).1)); have HZ := hideD HZ)
        | fail)
      all_goals
        go_wp2
        go_ret
        exact ⟨rfl, HZ.out⟩

theorem pt_ins {β : Type} {n : Int} {b : β} : ∀ {A R : List (Int × β)}, (∀ a ∈ A, a.1 < n) → (∀ a ∈ R, n < a.1) → pt n b (A ++ R) = A ++ (n, b) :: R
  | [], [], _, _ => rfl
  | [], y :: r, _, h => by
    have := h y List.mem_cons_self
    simp only [List.nil_append]
    unfold pt
    rw [if_pos this]
  | a :: A, R, hA, hR => by
    have := hA a List.mem_cons_self
    rw [List.cons_append]
    unfold pt
    rw [if_neg (by omega), if_neg (by omega), pt_ins (fun x hx => hA x (List.mem_cons_of_mem _ hx)) hR]
    rfl
theorem pt_pt {β : Type} {n : Int} {b c : β} {l : List (Int × β)} (h : Ris l) : pt n b (pt n c l) = pt n b l := by
  rw [← pt_dl n b (ris_pt h), ← pt_dl n b h]
  congr 1
  have h1 := ris_pt (n := n) (b := c) h
  induction l with
  | nil => simp [pt, dl]
  | cons y r ih =>
    obtain ⟨q1, q2⟩ := List.pairwise_cons.1 h
    unfold pt
    split
    · simp [dl]
    · split
      · rename_i h2 h3
        simp [dl, h3]
      · rename_i h2 h3
        have := ih q2 (ris_pt q2)
        unfold dl at this ⊢
        rw [List.filter_cons, List.filter_cons, this]
/-- What the appending of bytes to a segment leaves. -/
theorem app_tail {w wt : World} {Y g i ln cap' : Nat} {G : Nat → Prop} {d1 : Dk} {n : Int} {E1 : List (Int × Sv)} {sv : Value} {sb bs : List Int} {sn : Nat} (hQ : QDE wt Y (nF G w) d1 (.slice (some ⟨g, 0, none⟩) ln cap') E1) (hk : Kf G w wt) (hYw : Y < w.heap.size) (hi : i < E1.length) (he : E1[i] = (n, sv, sb, sn)) (hlk : lk n E1 = some (sv, sb, sn)) :
    ∀ (vb : Value) (wb : World), wb.ownsRow wt.heap.size 5 1 vb (sb.length + bs.length) (sb.map (Value.int .u8) ++ bs.map (Value.int .u8)) → Below wt.heap.size wt wb →
      wb.cell? ⟨g, i * 3 + 1, none⟩ = some sv ∧ wb.frozen? ⟨g, i * 3 + 1, none⟩ = false ∧ QD (wb.setCell ⟨g, i * 3 + 1, none⟩ vb) Y (nF G w) { d1 with L := pt n (sb ++ bs, sn) d1.L } ∧ Kf G w (wb.setCell ⟨g, i * 3 + 1, none⟩ vb) := fun vb wb hO hb => by
  obtain ⟨r1, r2, r3, r4⟩ := hQ.on hb
  have hll : ln = E1.length := by
    obtain ⟨a, c, e, _, _⟩ := r3.form
    simp only [Value.slice.injEq] at e
    exact e.2.1
  subst hll
  obtain ⟨_, _, e', _, _, hgl, d0, d1', d2⟩ := r3.at hi
  simp only [Value.slice.injEq, Option.some.injEq, Addr.mk.injEq] at e'
  obtain ⟨⟨eg, _⟩, _, _⟩ := e'
  rw [← eg, he] at d1'
  have hgw := r3.oo g rfl
  have hgt : g < wt.heap.size := (ownsRow_lt hQ.2.2.1.o g rfl).2
  have hst2 := (World.ownsRow.stored r3.o (i * 3 + 1) vb).1
  rw [celE_set1 hi _ (sb ++ bs), he] at hst2
  simp only at hst2
  obtain ⟨i', hi', f1, f2, f3⟩ := pt_set (c := (vb, sb ++ bs, sn)) r3.r hlk
  have hii : i' = i := by
    have hr := List.pairwise_iff_getElem.1 r3.r
    rcases Nat.lt_trichotomy i' i with hl | hl | hl
    · have := hr i' i hi' hi hl
      rw [f2, he] at this
      simp at this
    · exact hl
    · have := hr i i' hi hi' hl
      rw [f2, he] at this
      simp at this
  subst hii
  rw [← f3] at hst2
  have hlen : (pt n (vb, sb ++ bs, sn) E1).length = E1.length := by rw [f3, List.length_set]
  have hlo := World.ownsRow.lt hO
  have hsz := hk.size
  refine ⟨d1', World.ownsRow.frozenAt r3.o _, ⟨_, _, r1, ?_, r3.upd rfl (by rw [hlen]; exact hst2) (ris_pt r3.r) (fun x hx => ?_) (fun _ _ h => h), ?_⟩, ?_⟩
  · rw [mmE_pt, r2]
  · rcases mem_pt r3.r hx with rfl | ⟨hx, _⟩
    · refine .inr ⟨?_, fun z hz => ?_⟩
      · unfold Own
        rw [List.length_append, List.map_append]
        exact ⟨hO.1, hO.2.imp id (fun ⟨a, b, c, e1, e2, e3⟩ => ⟨a, b, c, e1, Nat.zero_le _, e3⟩)⟩
      · have := (hlo z hz).1
        exact ⟨.inr (by omega), by omega, by omega⟩
    · exact .inl hx
  · exact r4.far hgw.2 (i := i' * 3 + 1) vb
  · have hkb := hk.trans (Kf.of hb (Nat.le_refl _))
    rcases hgw.1 with hG | hn
    · exact hkb.set hG _
    · exact hkb.setNew hn _
/-- A new segment among those that are there. -/
theorem app_ins {w w1 : World} {Y j : Nat} {G : Nat → Prop} {d1 : Dk} {n : Int} {E : List (Int × Sv)} {Lv : Value} (hQ : QDE w1 Y (cF G w) d1 Lv E) (hk : Kf (cF G w) w w1) (hno : lk n E = none) (hj : j ≤ E.length) (h1 : ∀ k (h : k < E.length), k < j → (E[k]).1 < n) (h2 : ∀ h : j < E.length, n < (E[j]).1) :
    ∀ (vb : Value) (wb : World), wb.ownsRow w1.heap.size 56 3 vb (j + 1 + (E.length - j)) (celE (E.take j) ++ celE [(n, zC)] ++ celE (E.drop j)) → Below w1.heap.size w1 wb →
      (∃ u, wb.cell? ⟨Y, 0, none⟩ = some u) ∧ wb.frozen? ⟨Y, 0, none⟩ = false ∧ QDE (wb.setCell ⟨Y, 0, none⟩ vb) Y (nF G w) { d1 with L := pt n ([], 0) d1.L } vb (pt n zC E) ∧ Kf G w (wb.setCell ⟨Y, 0, none⟩ vb) ∧ lk n (pt n zC E) = some zC ∧ (pt n zC E).length = E.length + 1 ∧ ∃ h : j < (pt n zC E).length, (pt n zC E)[j] = (n, zC) := fun vb wb hO hb => by
  obtain ⟨p1, p2, p3, p4⟩ := hQ
  have hr := List.pairwise_iff_getElem.1 p3.r
  have hA : ∀ a ∈ E.take j, a.1 < n := fun a ha => by
    obtain ⟨k, hk, rfl⟩ := List.getElem_of_mem ha
    rw [List.length_take] at hk
    rw [List.getElem_take]
    exact h1 k (by omega) (by omega)
  have hR : ∀ a ∈ E.drop j, n < a.1 := fun a ha => by
    obtain ⟨k, hk, rfl⟩ := List.getElem_of_mem ha
    rw [List.length_drop] at hk
    rw [List.getElem_drop]
    have hjl : j < E.length := by omega
    have h3 := h2 hjl
    rcases Nat.eq_zero_or_pos k with rfl | hk0
    · exact h3
    · have := hr j (j + k) hjl (by omega) (by omega)
      omega
  have hpt : pt n zC E = E.take j ++ (n, zC) :: E.drop j := by
    conv => lhs; rw [← List.take_append_drop j E]
    exact pt_ins hA hR
  have hlt : (E.take j).length = j := by rw [List.length_take]; omega
  have hlen : (pt n zC E).length = j + 1 + (E.length - j) := by rw [hpt, List.length_append, hlt, List.length_cons, List.length_drop]; omega
  have hset : ∀ b, b ≠ Y → (wb.setCell ⟨Y, 0, none⟩ vb).heap[b]? = wb.heap[b]? := fun b hb => Below.heap_setCell _ _ _ _ (fun e => hb e)
  have hlo := World.ownsRow.lt hO
  have hsz := hk.size
  have hYl := p4.lt
  have hYw := p1.2
  have hb4 := p4.on hb
  refine ⟨⟨_, (hb4 0 _ rfl).1⟩, (hb4 0 _ rfl).2, ⟨.inl p1.1, ?_, ⟨ris_pt p3.r, ?_, fun q hq => ?_, fun x hx => ?_⟩, hb4.set (i := 0) (by simp) vb⟩, ((hk.wide.trans (Kf.of hb (Nat.le_refl _))).set p1.1 _), ?_, by omega, ?_⟩
  · rw [mmE_pt, p2]
    rfl
  · rw [hlen, hpt, celE_app]
    have e : celE ((n, zC) :: E.drop j) = celE [(n, zC)] ++ celE (E.drop j) := rfl
    rw [e, ← List.append_assoc]
    exact ownsRow_keep ⟨hO.1, hO.2.imp id (fun ⟨a, b, c, e1, e2, e3⟩ => ⟨a, b, c, e1, Nat.zero_le _, e3⟩)⟩ (fun q hq => hset q (by have := (hlo q hq).1; omega))
  · have := (hlo q hq).1
    exact ⟨.inr (by omega), by omega⟩
  · rcases mem_pt p3.r hx with rfl | ⟨hx, _⟩
    · exact ⟨World.ownsRow_nil _ 0 5 1, fun q hq => by simp [zC, Value.ownBlock] at hq⟩
    · obtain ⟨s1, s2⟩ := p3.s x hx
      have hxl := fun q hq => (ownsRow_lt s1 q hq).2
      refine ⟨ownD_keep s1 (fun q hq => (hset q (s2 q hq).2.1).trans (hb.block q (hxl q hq))), fun q hq => ⟨.inl (s2 q hq).1.1, (s2 q hq).2.1, fun e => ?_⟩⟩
      have := (hlo q e).1
      have := hxl q hq
      omega
  · exact lk_of (ris_pt p3.r) (by rw [hpt]; simp)
  · refine ⟨by omega, ?_⟩
    simp only [hpt]
    rw [List.getElem_append_right (by omega)]
    simp [hlt]

theorem QDE.usq {w : World} {Y : Nat} {G : Nat → Prop} {d : Dk} {Lv : Value} {E : List (Int × Sv)} (h : QDE w Y G d Lv E) (hu : usM d.L ≤ 1000000) : ∀ m, Calls Try.prog 29 #[.pointer (some ⟨Y, 0, none⟩)] (w.drewN m) fun e w' => e = .returned (.int .i64 (usM d.L : Int)) ∧ ∃ k, w' = w.drewN k :=
  fun m => (qused_any (w := w.drewN m) (h.keep (fun _ _ _ => rfl) (fun _ _ h => h)) hu).mono (fun e w' hh => ⟨hh.1, m, hh.2.symm⟩)
theorem ins_at {n : Int} : ∀ {E : List (Int × Sv)}, Ris E → lk n E = none → ∃ J, J ≤ E.length ∧ (∀ k (h : k < E.length), k < J → (E[k]).1 < n) ∧ ∀ h : J < E.length, n < (E[J]).1
  | [], _, _ => ⟨0, Nat.le_refl _, fun k h => absurd h (by simp), fun h => absurd h (by simp)⟩
  | y :: r, hr, hq => by
    obtain ⟨h1, h2⟩ := List.pairwise_cons.1 hr
    unfold lk at hq
    by_cases he : y.1 = n
    · rw [if_pos he] at hq
      cases hq
    · rw [if_neg he] at hq
      by_cases hlt : y.1 < n
      · obtain ⟨J, q1, q2, q3⟩ := ins_at h2 hq
        refine ⟨J + 1, by simpa using q1, fun k hk hkJ => ?_, fun h => ?_⟩
        · cases k with
          | zero => exact hlt
          | succ k => exact q2 k (by simpa using hk) (by omega)
        · exact q3 (by simpa using h)
      · exact ⟨0, Nat.zero_le _, fun k _ h => absurd h (by omega), fun _ => by
          show n < y.1
          omega⟩
/-- The new segment, as what is appended. -/
theorem src_one (wa : World) (n : Int) : Src Try.prog 3 49 (.slice (some ⟨wa.heap.size, 0, none⟩) 1 1) 1 (celE [(n, zC)]) (wa.alloc (.cells #[.int .i64 n, .slice none 0 0, .int .i64 0] 56)) := by
  refine Src.ofSlice _ Try.underlying49 _ 1 1 _ rfl (fun j u hj => ?_) (fun u hu => ?_)
  · rw [add_plain, Nat.zero_add]
    have hB : Bn (wa.alloc (.cells #[.int .i64 n, .slice none 0 0, .int .i64 0] 56)) wa.heap.size [.int .i64 n, .slice none 0 0, .int .i64 0] := Bn.new wa [.int .i64 n, .slice none 0 0, .int .i64 0] _ _ rfl
    exact (hB j u hj).1
  · have : celE [(n, zC)] = [.int .i64 n, .slice none 0 0, .int .i64 0] := rfl
    rw [this] at hu
    simp only [List.mem_cons, List.not_mem_nil, or_false] at hu
    rcases hu with rfl | rfl | rfl <;> rfl
theorem src_nil1 {w : World} {j c : Nat} {E : List (Int × Sv)} (hj : j = 0) : Src Try.prog 3 49 (.slice none j c) j (celE (E.take j)) w := by
  subst hj
  rw [List.take_zero]
  exact Src.ofNil w Try.underlying49 c
theorem src_nil2 {w : World} {k c : Nat} {E : List (Int × Sv)} (hk : k = 0) (hE : E = []) : Src Try.prog 3 49 (.slice none k c) k (celE E) w := by
  subst hk
  subst hE
  exact Src.ofNil w Try.underlying49 c
set_option maxRecDepth 100000 in
set_option maxHeartbeats 4000000 in
theorem qapp_off {w : World} {Y : Nat} {G : Nat → Prop} {d : Dk} {n : Int} {v : Value} {bs : List Int} (h0 : QD w Y G d) (hfu : d.fuse ≤ 9223372036854775807) (hro : 0 ≤ d.room ∧ d.room ≤ 9223372036854775807)
    (hu : usM d.L ≤ 1000000) (hb : bs.length ≤ 1000000) (hv : Rd w v bs) (hoff : d.dead = true ∨ n < 0 ∨ (bs.length : Int) > d.room - (usM d.L : Int) ∨ d.fuse = 0) :
    Calls Try.prog 18 #[.pointer (some ⟨Y, 0, none⟩), .int .i64 n, v] w fun e w' => e = .returned (.int .i64 (appD d n bs).2) ∧ QD w' Y (nF G w) (appD d n bs).1 ∧ Kf G w w' := by
  obtain ⟨Lv, E, h⟩ := h0
  have hw : QD w Y (nF G w) d := ⟨Lv, E, h.keep (fun _ _ _ => rfl) (fun j _ hj => .inl hj)⟩
  have hus := h.usq hu
  obtain ⟨va, vc, rfl, hvl, hvm, _⟩ := id hv
  obtain ⟨g1, g2, g3, g4⟩ := id h
  have hYl := g4.lt
  obtain ⟨c1, f1⟩ := g4 1 _ rfl
  obtain ⟨c3, f3⟩ := g4 3 _ rfl
  unfold appD
  by_cases hd : d.dead = true
  · rw [if_pos hd]
    rw [hd] at c3
    clear h g2 g3 g4
    go_enter Try.func18, Try.ntmps18
    go_wp2
    go_ret
    exact ⟨rfl, hw, Kf.refl _ _⟩
  rw [if_neg hd]
  have hd' : d.dead = false := by simpa using hd
  rw [hd'] at c3
  by_cases hn0 : n < 0
  · rw [if_pos hn0]
    clear h g2 g3 g4
    go_enter Try.func18, Try.ntmps18
    go_wp2
    go_ret
    exact ⟨rfl, hw, Kf.refl _ _⟩
  rw [if_neg hn0]
  have hw1 : IntKind.i64.wrap (d.room - (usM d.L : Int)) = d.room - (usM d.L : Int) := by rw [IntKind.wrap_i64]; omega
  by_cases hr : (bs.length : Int) > d.room - (usM d.L : Int)
  · rw [if_pos hr]
    clear h g2 g3 g4
    go_enter Try.func18, Try.ntmps18
    go_wp2
    go_quiet (exact hus _)
    go_wp2
    go_ret
    exact ⟨rfl, hw.keep (fun _ _ _ => rfl) (fun _ _ h => h), (Kf.refl G w).drewN _⟩
  rw [if_neg hr]
  have hz : d.fuse = 0 := by
    rcases hoff with h | h | h | h
    · exact absurd h hd
    · exact absurd h hn0
    · exact absurd h hr
    · exact h
  have hC := h.clip
  have hbn := fun m => qburn_any (w := w.drewN m) (hC.keep (fun _ _ _ => rfl) (fun _ _ h => h)) hfu
  rw [if_pos hz]
  simp only [decide_eq_false (show ¬ d.fuse ≠ 0 by simpa using hz)] at hbn
  have hkf := fun m => (Kf.refl (cF G w) w).drewN m
  clear h g2 g3 g4 hC
  go_enter Try.func18, Try.ntmps18
  go_wp2
  go_quiet (exact hus _)
  go_wp2_with (first
    | (go_at_call 37; refine (hbn _).mono ?_; rintro e w1 ⟨rfl, p1, k1⟩; clear hbn)
    | fail)
  go_ret
  exact ⟨rfl, ⟨Lv, E, p1.keep (fun _ _ _ => rfl) (fun j _ hj => .inl hj.1)⟩, ((hkf _).trans k1).wide⟩

set_option maxRecDepth 100000 in
set_option maxHeartbeats 8000000 in
theorem qapp_hit {w : World} {Y : Nat} {G : Nat → Prop} {d : Dk} {n : Int} {v : Value} {bs : List Int} {Lv : Value} {E : List (Int × Sv)} {s : Sv} (h : QDE w Y G d Lv E) (hfu : d.fuse ≤ 9223372036854775807) (hro : 0 ≤ d.room ∧ d.room ≤ 9223372036854775807)
    (hl : d.L.length ≤ 100000) (hu : usM d.L ≤ 1000000) (hb : bs.length ≤ 1000000) (hv : ∀ w1, Kf G w w1 → Rd w1 v bs) (hd : d.dead = false) (hn0 : ¬ n < 0) (hr : ¬ (bs.length : Int) > d.room - (usM d.L : Int)) (hz : ¬ d.fuse = 0) (hq : lk n E = some s) :
    Calls Try.prog 18 #[.pointer (some ⟨Y, 0, none⟩), .int .i64 n, v] w fun e w' => e = .returned (.int .i64 (appD d n bs).2) ∧ QD w' Y (nF G w) (appD d n bs).1 ∧ Kf G w w' := by
  have hus := h.usq hu
  obtain ⟨va, vc, rfl, hvl, hvm, _⟩ := id (hv w (Kf.refl G w))
  obtain ⟨g1, g2, g3, g4⟩ := id h
  have hYl := g4.lt
  obtain ⟨c1, f1⟩ := g4 1 _ rfl
  obtain ⟨c3, f3⟩ := g4 3 _ rfl
  rw [hd] at c3
  have hw1 : IntKind.i64.wrap (d.room - (usM d.L : Int)) = d.room - (usM d.L : Int) := by rw [IntKind.wrap_i64]; omega
  have hC := h.clip
  have hbn := fun m => qburn_any (w := w.drewN m) (hC.keep (fun _ _ _ => rfl) (fun _ _ h => h)) hfu
  simp only [decide_eq_true (show d.fuse ≠ 0 from hz)] at hbn
  have hkf := fun m => (Kf.refl (cF G w) w).drewN m
  obtain ⟨sv, sb, sn⟩ := s
  have hlk := mmE_lk n E
  rw [g2, hq] at hlk
  simp only [Option.map_some] at hlk
  have hD : appD d n bs = ({ brn d with L := pt n (sb ++ bs, sn) d.L }, 0) := by
    unfold appD
    rw [if_neg (by simp [hd]), if_neg hn0, if_neg hr, if_neg hz, hlk]
    rfl
  rw [hD]
  obtain ⟨D, hD2⟩ : ∃ D : Dk, { brn d with L := pt n (sb ++ bs, sn) d.L } = D := ⟨_, rfl⟩
  simp only [hD2]
  have HD := hideD hD2
  have hbL := hideD (brn_L d).1
  have hus0 := usM_lk (L := d.L) (n := n) (s := (sb, sn)) hlk
  have hlE : E.length ≤ 100000 := by rw [← g2] at hl; simpa [mmE] using hl
  obtain ⟨i, hi, e1, e2⟩ := fI_at 0 hq
  rw [Nat.zero_add] at e1
  obtain ⟨g, cap, rfl, hlc, hcm, hgl, dz0, d1, dz2⟩ := g3.at hi
  rw [e2] at d1
  simp only at d1
  obtain ⟨ho, hof⟩ := g3.s _ (List.getElem_mem hi)
  rw [e2] at ho hof
  simp only at ho hof
  obtain ⟨sa, sc, hsv, hsl, hsm⟩ := slice_form ho
  have HV := hideD hv
  have HQ := hideD hq
  have H2 := hideD e2
  have HI := hideD hi
  have k3 : ¬ (i : Int) < 0 := by omega
  have k2 : (i : Int) < (E.length : Int) := by omega
  have k1 : (0 : Int) ≤ (i : Int) := by omega
  obtain ⟨ln, hln⟩ : ∃ k, E.length = k := ⟨_, rfl⟩
  have hgw := (g3.oo g rfl).1
  have hgY := (g3.oo g rfl).2
  rw [hln] at k2 hlc hlE
  have HL := hideD hln
  clear dz0 dz2
  clear h g2 g3 g4 hC hlk hq hD hD2 hv e2 d1 hln ho hof
  go_enter Try.func18, Try.ntmps18
  go_wp2
  go_quiet (exact hus _)
  go_upto_region 18 with (first
    | (go_at_call 37; refine (hbn _).mono ?_; rintro e w1 ⟨rfl, p1, k1'⟩; clear hbn; have hf := qfind_any p1 n; rw [e1] at hf)
    | (go_at_call 38; refine hf.mono ?_; rintro e w2 ⟨rfl, rfl⟩; clear hf)
    | fail)
  have hK := ((hkf _).trans k1').wide
  have hsz := hK.size
  obtain ⟨p2, p3, p4, p5⟩ := id p1
  obtain ⟨c0, f0⟩ := p5 0 _ rfl
  obtain ⟨g', cap', e', _, _, hgl', _, d1, _⟩ := p4.at HI.out
  simp only [Value.slice.injEq, Option.some.injEq, Addr.mk.injEq] at e'
  obtain ⟨⟨rfl, _⟩, _, rfl⟩ := e'
  obtain ⟨ho, hof⟩ := p4.s _ (List.getElem_mem HI.out)
  rw [H2.out] at ho hof d1
  simp only at ho hof d1
  have hal : Below w1.heap.size w1 (w1.alloc (.cells #[] 5)).drew := ((Below.refl _ _).alloc (Nat.le_refl _) _).drew
  have hown : (w1.alloc (.cells #[] 5)).drew.ownsRow w1.heap.size 5 1 (.slice (some ⟨w1.heap.size, 0, none⟩) 0 0) 0 [] := World.ownsRow_made w1 #[] 0 (Nat.le_refl _) (Nat.zero_le _) rfl
  have HS1 := hideD ((rd_on ho.rd hal).src (t := 30) (e := 5) Try.underlying30)
  have HS2 := hideD (show ∀ W, Below w1.heap.size w1 W → Src Try.prog 1 30 (.slice va bs.length vc) bs.length (bs.map (Value.int .u8)) W from fun W hb => (HV.out W (hK.trans (Kf.of hb (Nat.le_refl _)))).src (t := 30) (e := 5) Try.underlying30)
  have HT := hideD (app_tail (bs := bs) (p1.keep (fun _ _ _ => rfl) (fun j _ hj => .inl hj.1)) hK hYl HI.out H2.out HQ.out)
  subst hsv
  rw [HL.out] at c0
  have C0 : (w1.alloc (.cells #[] 5)).drew.cell? ⟨Y, 0, none⟩ = some (.slice (some ⟨g, 0, none⟩) ln cap) := (hal.cell (p := ⟨Y, 0, none⟩) (by show Y < _; omega)).trans c0
  have D1 : (w1.alloc (.cells #[] 5)).drew.cell? ⟨g, i * 3 + 1, none⟩ = some (.slice sa sb.length sc) := (hal.cell (p := ⟨g, i * 3 + 1, none⟩) (by show g < _; omega)).trans d1
  have hga1 : ∀ (wa : World), (w1.alloc (.cells #[] 5)).drew.grownBy wa (Value.slice (some ⟨w1.heap.size, 0, none⟩) 0 0).ownBlock → Below w1.heap.size w1 wa := fun wa hg => hal.grown hg (by show w1.heap.size ≤ (w1.alloc _).heap.size; simp) (fun k hk => by have : w1.heap.size = k := Option.some.inj hk; omega)
  obtain ⟨j0, hj, hz0, hz1, hz2⟩ := u8_inf
  clear p1 p2 p3 p4 p5 ho hof hus hkf k1'
  go_region_law (first
    | (refine step_append_at _ (by rfl) (.tmp 87) (.tmp 95) 30 30 (by rfl) w1.heap.size 5 j0 (.int .u8 0) 1 1 Try.underlying30 hj hz0 hz1 hz2 rfl (.slice (some ⟨w1.heap.size, 0, none⟩) 0 0) 0 [] (by rfl) hown _ sb.length (sb.map (Value.int .u8)) (by rfl) HS1.out sb.length (.inr (by omega)) (Nat.le_refl _) (by unfold maxLen; omega) (by show w1.heap.size ≤ (w1.alloc _).heap.size; simp) ?_; intro va1 wa hOa hga hata; rw [Nat.zero_add, List.nil_append] at hOa; obtain ⟨a1, ac1, rfl, hl1, hm1⟩ := ownf_form hOa; have hba := hga1 wa hga; have C2 := (hba.cell (p := ⟨Y, 0, none⟩) (by show Y < _; omega)).trans c0)
    | (refine step_append_at _ (by rfl) (.tmp 96) (.tmp 97) 30 30 (by rfl) w1.heap.size 5 j0 (.int .u8 0) 1 1 Try.underlying30 hj hz0 hz1 hz2 rfl (.slice a1 sb.length ac1) sb.length (sb.map (Value.int .u8)) (by rfl) hOa _ bs.length (bs.map (Value.int .u8)) (by rfl) (HS2.out _ hba) bs.length (.inr (by omega)) (Nat.le_refl _) (by unfold maxLen; omega) hba.size ?_; intro vb wb hOb hgb hatb; obtain ⟨a3, c3', rfl, hl3, hm3⟩ := ownf_form hOb; have hbb := hba.grown hgb hba.size (fun k hk => (World.ownsRow.lt hOa k hk).1); have C3 := (hbb.cell (p := ⟨Y, 0, none⟩) (by show Y < _; omega)).trans c0; obtain ⟨D3, F3, HZ⟩ := HT.out _ _ hOb hbb; have HZ := hideD HZ)
    | fail)
  all_goals
    go_wp2
    go_ret
    refine ⟨rfl, ?_, HZ.out.2⟩
    have := HZ.out.1
    rw [← HD.out]
    have e := hbL.out
    rw [e] at this
    exact this

set_option maxRecDepth 100000 in
set_option maxHeartbeats 8000000 in
theorem qapp_end {w : World} {Y : Nat} {G : Nat → Prop} {d : Dk} {n : Int} {v : Value} {bs : List Int} {Lv : Value} {E : List (Int × Sv)} {J : Nat} (h : QDE w Y G d Lv E) (hfu : d.fuse ≤ 9223372036854775807) (hro : 0 ≤ d.room ∧ d.room ≤ 9223372036854775807)
    (hl : d.L.length ≤ 100000) (hu : usM d.L ≤ 1000000) (hb : bs.length ≤ 1000000) (hv : ∀ w1, Kf G w w1 → Rd w1 v bs) (hd : d.dead = false) (hn0 : ¬ n < 0) (hr : ¬ (bs.length : Int) > d.room - (usM d.L : Int)) (hz : ¬ d.fuse = 0) (hq : lk n E = none)
    (hJ : J ≤ E.length) (hJ1 : ∀ k (h : k < E.length), k < J → (E[k]).1 < n) (hJ2 : ∀ h : J < E.length, n < (E[J]).1) (hsome : ∃ g cap, Lv = .slice (some ⟨g, 0, none⟩) E.length cap) (hend : J = E.length) :
    Calls Try.prog 18 #[.pointer (some ⟨Y, 0, none⟩), .int .i64 n, v] w fun e w' => e = .returned (.int .i64 (appD d n bs).2) ∧ QD w' Y (nF G w) (appD d n bs).1 ∧ Kf G w w' := by
  have hus := h.usq hu
  obtain ⟨va, vc, rfl, hvl, hvm, _⟩ := id (hv w (Kf.refl G w))
  obtain ⟨g1, g2, g3, g4⟩ := id h
  have hYl := g4.lt
  obtain ⟨c1, f1⟩ := g4 1 _ rfl
  obtain ⟨c3, f3⟩ := g4 3 _ rfl
  rw [hd] at c3
  have hw1 : IntKind.i64.wrap (d.room - (usM d.L : Int)) = d.room - (usM d.L : Int) := by rw [IntKind.wrap_i64]; omega
  have hC := h.clip
  have hbn := fun m => qburn_any (w := w.drewN m) (hC.keep (fun _ _ _ => rfl) (fun _ _ h => h)) hfu
  simp only [decide_eq_true (show d.fuse ≠ 0 from hz)] at hbn
  have hkf := fun m => (Kf.refl (cF G w) w).drewN m
  have hlk := mmE_lk n E
  rw [g2, hq] at hlk
  simp only [Option.map_none] at hlk
  have hD : appD d n bs = ({ brn d with L := pt n (bs, 0) d.L }, 0) := by
    unfold appD
    rw [if_neg (by simp [hd]), if_neg hn0, if_neg hr, if_neg hz, hlk]
    rfl
  rw [hD]
  obtain ⟨D, hD2⟩ : ∃ D : Dk, { brn d with L := pt n (bs, 0) d.L } = D := ⟨_, rfl⟩
  simp only [hD2]
  have HD := hideD hD2
  have hbL := hideD (brn_L d).1
  have hris := hideD (show Ris d.L by rw [← g2]; exact ris_mmE g3.r)
  have hlE : E.length ≤ 100000 := by rw [← g2] at hl; simpa [mmE] using hl
  have e1 := fI_no 0 hq
  have HV := hideD hv
  have HQ := hideD hq
  have HJ := hideD (And.intro hJ (And.intro hJ1 hJ2))
  obtain ⟨g, cap, rfl, hlc, hcm, dg1, dg2⟩ : ∃ g cap, Lv = .slice (some ⟨g, 0, none⟩) E.length cap ∧ E.length ≤ cap ∧ cap ≤ maxLen ∧ g < w.heap.size ∧ g ≠ Y := by
    obtain ⟨g, cap, e⟩ := hsome
    obtain ⟨a, c, e2, q1, q2⟩ := g3.form
    have e3 := e
    rw [e2] at e3
    simp only [Value.slice.injEq] at e3
    obtain ⟨_, _, rfl⟩ := e3
    exact ⟨g, c, e, q1, q2, (ownsRow_lt g3.o g (by rw [e]; rfl)).2, (g3.oo g (by rw [e]; rfl)).2⟩
  have hend' := hend
  obtain ⟨ln, hln⟩ : ∃ k, E.length = k := ⟨_, rfl⟩
  have HL := hideD hln
  rw [hln] at hlc hlE hJ hend'
  have HEND := hideD hend'
  clear h g2 g3 g4 hC hlk hq hD hD2 hv hJ1 hJ2 hln hend hend'
  unfold maxLen at hcm
  obtain ⟨i0, hi0, hz0, hz1, hz2⟩ := seg_inf
  obtain ⟨j0, hj0, y0, y1, y2⟩ := u8_inf
  go_enter Try.func18, Try.ntmps18
  go_wp2
  go_quiet (exact hus _)
  go_wp2_with (first
    | (go_at_call 37; refine (hbn _).mono ?_; rintro e w1 ⟨rfl, p1, k1'⟩; clear hbn; have hf := qfind_any p1 n; rw [e1] at hf; have hK := ((hkf _).trans k1'); have hP := hideD (And.intro p1 hK); obtain ⟨p2, p3, p4, p5⟩ := id p1; have c0 := (p5 0 _ rfl).1; have HX := hideD p4; clear p1 hK p2 p3 p4 k1' hkf)
    | (go_at_call 38; refine hf.mono ?_; rintro e w2 ⟨rfl, rfl⟩; clear hf)
    | fail)
  rw [HL.out] at c0
  go_loopw [7] (fun ix wr => ∃ (j : Nat), j ≤ J ∧ ix = .int .i64 (j : Int) ∧ w1 = wr) (fun ix _ => J - (RowKit.intOf ix).toNat)
  case atStart => exact ⟨0, Nat.zero_le _, rfl, rfl⟩
  obtain ⟨j, hj, rfl, rfl⟩ := hrel
  by_cases hlt : j < J
  · have hjl : j < E.length := by rw [HL.out]; omega
    obtain ⟨g', cap', e', _, _, hgl, d0, dd1, dd2⟩ := QR.at HX.out hjl
    have hgg : g' = g := by
      simp only [Value.slice.injEq, Option.some.injEq, Addr.mk.injEq] at e'
      exact e'.1.1.symm
    subst hgg
    have hx := HJ.out.2.1 j hjl hlt
    obtain ⟨x, hxx⟩ : ∃ x, (E[j]).1 = x := ⟨_, rfl⟩
    rw [hxx] at d0 hx
    have k1 : (j : Int) < (ln : Int) := by omega
    have k2 : (0 : Int) ≤ (j : Int) := by omega
    clear hxx dd1 dd2 e'
    go_wp2
    go_roundw
    case rel => exact ⟨j + 1, hlt, by go_num, by first | rfl | trivial⟩
    case measure => simp [RowKit.intOf]; omega
  obtain rfl : j = J := by omega
  clear hlt hj
  have k1 : ¬ (j : Int) < (ln : Int) := by have := HEND.out; omega
  have k2 : (0 : Int) ≤ (j : Int) := by omega
  have k3 : (j : Int) ≤ (ln : Int) := by omega
  have k4 : ¬ (j : Int) > (ln : Int) := by omega
  have k5 : (j : Int) ≤ (cap : Int) := by omega
  have k6 : ¬ (j : Int) > (cap : Int) := by omega
  have k7 : (ln : Int) ≤ (cap : Int) := by omega
  have hK := hP.out.2
  have hsz := hK.size
  have hcl := HX.out.cells
  have hone := HX.out.one
  have HCL := hideD (And.intro hcl hone)
  clear hcl hone
  have HS1 := src_take (i := j) (c := cap) HCL.out.1 HCL.out.2 HJ.out.1
  have HO0 : w1.ownsRow w1.heap.size 56 3 (.slice none 0 0) 0 [] := World.ownsRow_nil w1 _ _ _
  obtain ⟨a2, ha2⟩ : ∃ a2, (if cap = j then some (⟨g, 0, none⟩ : Addr) else some ⟨g, j * 3, none⟩) = a2 := ⟨_, rfl⟩
  have HS3 := hideD (show ∀ W, Below w1.heap.size w1 W → Src Try.prog 3 49 (.slice a2 (ln - j) (cap - j)) (ln - j) (celE (E.drop j)) W from fun W hb => by
    have hl2 := HL.out
    rw [← ha2]
    by_cases hc : cap = j
    · rw [if_pos hc]
      have e1 : ln - j = 0 := by omega
      have e2 : E.drop j = [] := List.drop_eq_nil_of_le (by omega)
      rw [e1, e2]
      exact src_none
    · rw [if_neg hc]
      have := src_drop (w := W) (g := g) (i := j) (c := cap - j) (E := E) (fun k u hk => (hb.cell (p := ⟨g, k, none⟩) (by show g < _; omega)).trans (HCL.out.1 k u hk)) HCL.out.2 (by omega)
      rw [hl2] at this
      exact this)
  have HT := hideD (app_ins hP.out.1 hK HQ.out HJ.out.1 HJ.out.2.1 HJ.out.2.2)
  have HP2 := hideD c0
  clear hK
  go_upto_region 18 with (first
    | (at_builtin; refine wpList_append_at _ rfl _ _ 49 49 rfl w1.heap.size 56 i0 (.agg #[.int .i64 0, .slice none 0 0, .int .i64 0]) 3 40 Try.underlying49 hi0 hz0 hz1 hz2 rfl (.slice none 0 0) 0 _ rfl HO0 _ _ _ rfl HS1 j (.inr (by omega)) (Nat.le_refl _) (by unfold maxLen; omega) (Nat.le_refl _) ?_; intro va1 wa hOa hga hata; rw [Nat.zero_add, List.nil_append] at hOa; obtain ⟨a1, ac1, rfl, hl1, hm1⟩ := ownf_form hOa; have hba : Below w1.heap.size w1 wa := (Below.refl _ _).grown hga (Nat.le_refl _) (fun k hk => by cases hk); clear hga hata HS1 HO0; have hal2 : Below w1.heap.size w1 (wa.alloc (.cells #[.int .i64 n, .slice none 0 0, .int .i64 0] 56)) := hba.alloc hba.size _; have HO2 : (wa.alloc (.cells #[.int .i64 n, .slice none 0 0, .int .i64 0] 56)).ownsRow w1.heap.size 56 3 (.slice a1 j ac1) j (celE (E.take j)) := ownsRow_keep hOa (fun q hq => ((Below.refl wa.heap.size wa).alloc (Nat.le_refl _) _).block q (World.ownsRow.lt hOa q hq).2); have HS2 : Src Try.prog 3 49 (.slice (some ⟨wa.heap.size, 0, none⟩) 1 1) 1 (celE [(n, zC)]) (wa.alloc (.cells #[.int .i64 n, .slice none 0 0, .int .i64 0] 56)) := src_one wa n)
    | (at_builtin; refine wpList_append_at _ rfl _ _ 49 49 rfl w1.heap.size 56 i0 (.agg #[.int .i64 0, .slice none 0 0, .int .i64 0]) 3 40 Try.underlying49 hi0 hz0 hz1 hz2 rfl (.slice a1 j ac1) j _ rfl HO2 _ _ _ rfl HS2 1 (.inr (by omega)) (Nat.le_refl _) (by unfold maxLen; omega) hal2.size ?_; intro vb1 wb hOb hgb hatb; obtain ⟨a3, ac3, rfl, hl3, hm3⟩ := ownf_form hOb; have hbb : Below w1.heap.size w1 wb := hal2.grown hgb hal2.size (fun k hk => (World.ownsRow.lt hOa k hk).1); clear hgb hatb HO2 HS2 hOa; have CB := (hbb.cell (p := ⟨Y, 0, none⟩) (by show Y < _; omega)).trans c0)
    | (at_builtin; refine wpList_append_at _ rfl _ _ 49 49 rfl w1.heap.size 56 i0 (.agg #[.int .i64 0, .slice none 0 0, .int .i64 0]) 3 40 Try.underlying49 hi0 hz0 hz1 hz2 rfl (.slice a3 (j + 1) ac3) (j + 1) _ rfl hOb _ _ _ rfl (HS3.out _ hbb) (ln - j) (.inr (by omega)) (Nat.le_refl _) (by unfold maxLen; omega) hbb.size ?_; intro vc1 wc hOc hgc hatc; obtain ⟨a5, ac5, rfl, hl5, hm5⟩ := ownf_form hOc; have hbc : Below w1.heap.size w1 wc := hbb.grown hgc hbb.size (fun k hk => (World.ownsRow.lt hOb k hk).1); obtain ⟨⟨uc, U0⟩, U1, HZ0⟩ := HT.out _ _ (by rw [HL.out]; exact hOc) hbc; have HZ := hideD HZ0; clear HZ0; clear hgc hatc hOc hOb)
    | fail)
  clear HS3 HT HP2 U1 hbc hbb hal2 hba CB ha2
  have hN0 : j < j + 1 + (ln - j) ∧ j + 1 + (ln - j) ≤ 100001 := by omega
  generalize hw3 : wc.setCell ⟨Y, 0, none⟩ (.slice a5 (j + 1 + (ln - j)) ac5) = w3 at HZ ⊢
  clear hw3 U0
  generalize j + 1 + (ln - j) = N at HZ hN0 hl5
  have hz3 := HZ.out
  clear HZ
  generalize hE1 : pt n zC E = E1 at hz3
  generalize hs : zC = s at hz3
  obtain ⟨sv, sb, sn⟩ := s
  obtain ⟨P1, hK3, hq3, hlen3, hi3, e3⟩ := hz3
  have HS := hideD hs
  have HQ3 := hideD hq3
  have H3 := hideD e3
  clear hs hE1 hq3 hlen3 e3 c0 p5 HX hP HCL HQ HJ hsz
  have hsz := hK3.size
  obtain ⟨p2, p3, p4, p5⟩ := id P1
  have c0 := (p5 0 _ rfl).1
  obtain ⟨g3, cap3, e', hc1, hc2, hgl3, x0, d1, x2⟩ := p4.at hi3
  simp only [Value.slice.injEq] at e'
  obtain ⟨rfl, hN, rfl⟩ := e'
  obtain ⟨ho, hof⟩ := p4.s _ (List.getElem_mem hi3)
  rw [H3.out] at ho hof d1
  simp only at ho hof d1
  obtain ⟨sa, sc, rfl, hsl, hsm⟩ := slice_form ho
  have hsb : sb.length = 0 := by
    have := HS.out
    simp only [zC, Prod.mk.injEq] at this
    rw [← this.2.1]
    rfl
  have HDE := hideD (show pt n (sb ++ bs, sn) (pt n ([], 0) (brn d).L) = pt n (bs, 0) d.L from by
    have := HS.out
    simp only [zC, Prod.mk.injEq] at this
    rw [← this.2.1, ← this.2.2, hbL.out]
    exact pt_pt hris.out)
  have hsb2 : sb.length ≤ 0 := by omega
  clear x0 x2 hof hN hsb
  have hal : Below w3.heap.size w3 (w3.alloc (.cells #[] 5)).drew := ((Below.refl _ _).alloc (Nat.le_refl _) _).drew
  have hown : (w3.alloc (.cells #[] 5)).drew.ownsRow w3.heap.size 5 1 (.slice (some ⟨w3.heap.size, 0, none⟩) 0 0) 0 [] := World.ownsRow_made w3 #[] 0 (Nat.le_refl _) (Nat.zero_le _) rfl
  have HS1 := hideD ((rd_on ho.rd hal).src (t := 30) (e := 5) Try.underlying30)
  have HS2 := hideD (show ∀ W, Below w3.heap.size w3 W → Src Try.prog 1 30 (.slice va bs.length vc) bs.length (bs.map (Value.int .u8)) W from fun W hb => (HV.out W (hK3.trans (Kf.of hb (Nat.le_refl _)))).src (t := 30) (e := 5) Try.underlying30)
  have HT := hideD (app_tail (bs := bs) P1 hK3 hYl hi3 H3.out HQ3.out)
  have C0 : (w3.alloc (.cells #[] 5)).drew.cell? ⟨Y, 0, none⟩ = some (.slice (some ⟨g3, 0, none⟩) N ac5) := (hal.cell (p := ⟨Y, 0, none⟩) (by show Y < _; omega)).trans c0
  have D1 : (w3.alloc (.cells #[] 5)).drew.cell? ⟨g3, j * 3 + 1, none⟩ = some (.slice sa sb.length sc) := (hal.cell (p := ⟨g3, j * 3 + 1, none⟩) (by show g3 < _; omega)).trans d1
  have hga1 : ∀ (wa : World), (w3.alloc (.cells #[] 5)).drew.grownBy wa (Value.slice (some ⟨w3.heap.size, 0, none⟩) 0 0).ownBlock → Below w3.heap.size w3 wa := fun wa hg => hal.grown hg (by show w3.heap.size ≤ (w3.alloc _).heap.size; simp) (fun k hk => by have : w3.heap.size = k := Option.some.inj hk; omega)
  have m1 : (j : Int) < (N : Int) := by omega
  clear p2 p3 p4 p5 ho
  go_region_law (first
    | (refine step_append_at _ (by rfl) (.tmp 87) (.tmp 95) 30 30 (by rfl) w3.heap.size 5 j0 (.int .u8 0) 1 1 Try.underlying30 hj0 y0 y1 y2 rfl (.slice (some ⟨w3.heap.size, 0, none⟩) 0 0) 0 [] (by rfl) hown _ sb.length (sb.map (Value.int .u8)) (by rfl) HS1.out sb.length (.inr (by omega)) (Nat.le_refl _) (by unfold maxLen; omega) (by show w3.heap.size ≤ (w3.alloc _).heap.size; simp) ?_; intro va1 wa hOa hga hata; rw [Nat.zero_add, List.nil_append] at hOa; obtain ⟨a1, ac1, rfl, hl1, hm1⟩ := ownf_form hOa; have hba := hga1 wa hga; have C2 := (hba.cell (p := ⟨Y, 0, none⟩) (by show Y < _; omega)).trans c0)
    | (refine step_append_at _ (by rfl) (.tmp 96) (.tmp 97) 30 30 (by rfl) w3.heap.size 5 j0 (.int .u8 0) 1 1 Try.underlying30 hj0 y0 y1 y2 rfl (.slice a1 sb.length ac1) sb.length (sb.map (Value.int .u8)) (by rfl) hOa _ bs.length (bs.map (Value.int .u8)) (by rfl) (HS2.out _ hba) bs.length (.inr (by omega)) (Nat.le_refl _) (by unfold maxLen; omega) hba.size ?_; intro vb wb hOb hgb hatb; obtain ⟨a3, c3', rfl, hl3, hm3⟩ := ownf_form hOb; have hbb := hba.grown hgb hba.size (fun k hk => (World.ownsRow.lt hOa k hk).1); have C3 := (hbb.cell (p := ⟨Y, 0, none⟩) (by show Y < _; omega)).trans c0; obtain ⟨D3, F3, HZ⟩ := HT.out _ _ hOb hbb; have HZ := hideD HZ)
    | fail)
  all_goals
    go_wp2
    go_ret
    refine ⟨rfl, ?_, HZ.out.2⟩
    have h2 : QD _ Y (nF G w) { brn d with L := pt n (sb ++ bs, sn) (pt n ([], 0) (brn d).L) } := HZ.out.1
    rw [HDE.out] at h2
    rw [← HD.out]
    exact h2

set_option maxRecDepth 100000 in
set_option maxHeartbeats 8000000 in
theorem qapp_mid {w : World} {Y : Nat} {G : Nat → Prop} {d : Dk} {n : Int} {v : Value} {bs : List Int} {Lv : Value} {E : List (Int × Sv)} {J : Nat} (h : QDE w Y G d Lv E) (hfu : d.fuse ≤ 9223372036854775807) (hro : 0 ≤ d.room ∧ d.room ≤ 9223372036854775807)
    (hl : d.L.length ≤ 100000) (hu : usM d.L ≤ 1000000) (hb : bs.length ≤ 1000000) (hv : ∀ w1, Kf G w w1 → Rd w1 v bs) (hd : d.dead = false) (hn0 : ¬ n < 0) (hr : ¬ (bs.length : Int) > d.room - (usM d.L : Int)) (hz : ¬ d.fuse = 0) (hq : lk n E = none)
    (hJ : J ≤ E.length) (hJ1 : ∀ k (h : k < E.length), k < J → (E[k]).1 < n) (hJ2 : ∀ h : J < E.length, n < (E[J]).1) (hne : 0 < E.length) (hmid : J < E.length) :
    Calls Try.prog 18 #[.pointer (some ⟨Y, 0, none⟩), .int .i64 n, v] w fun e w' => e = .returned (.int .i64 (appD d n bs).2) ∧ QD w' Y (nF G w) (appD d n bs).1 ∧ Kf G w w' := by
  have hus := h.usq hu
  obtain ⟨va, vc, rfl, hvl, hvm, _⟩ := id (hv w (Kf.refl G w))
  obtain ⟨g1, g2, g3, g4⟩ := id h
  have hYl := g4.lt
  obtain ⟨c1, f1⟩ := g4 1 _ rfl
  obtain ⟨c3, f3⟩ := g4 3 _ rfl
  rw [hd] at c3
  have hw1 : IntKind.i64.wrap (d.room - (usM d.L : Int)) = d.room - (usM d.L : Int) := by rw [IntKind.wrap_i64]; omega
  have hC := h.clip
  have hbn := fun m => qburn_any (w := w.drewN m) (hC.keep (fun _ _ _ => rfl) (fun _ _ h => h)) hfu
  simp only [decide_eq_true (show d.fuse ≠ 0 from hz)] at hbn
  have hkf := fun m => (Kf.refl (cF G w) w).drewN m
  have hlk := mmE_lk n E
  rw [g2, hq] at hlk
  simp only [Option.map_none] at hlk
  have hD : appD d n bs = ({ brn d with L := pt n (bs, 0) d.L }, 0) := by
    unfold appD
    rw [if_neg (by simp [hd]), if_neg hn0, if_neg hr, if_neg hz, hlk]
    rfl
  rw [hD]
  obtain ⟨D, hD2⟩ : ∃ D : Dk, { brn d with L := pt n (bs, 0) d.L } = D := ⟨_, rfl⟩
  simp only [hD2]
  have HD := hideD hD2
  have hbL := hideD (brn_L d).1
  have hris := hideD (show Ris d.L by rw [← g2]; exact ris_mmE g3.r)
  have hlE : E.length ≤ 100000 := by rw [← g2] at hl; simpa [mmE] using hl
  have e1 := fI_no 0 hq
  have HV := hideD hv
  have HQ := hideD hq
  have HJ := hideD (And.intro hJ (And.intro hJ1 hJ2))
  obtain ⟨g, cap, rfl, hlc, hcm, dg1, dg2⟩ : ∃ g cap, Lv = .slice (some ⟨g, 0, none⟩) E.length cap ∧ E.length ≤ cap ∧ cap ≤ maxLen ∧ g < w.heap.size ∧ g ≠ Y := by
    obtain ⟨g, cap, e, q1, q2, q3, _⟩ := g3.at hne
    exact ⟨g, cap, e, q1, q2, q3, (g3.oo g (by rw [e]; rfl)).2⟩
  have hend' := hmid
  obtain ⟨ln, hln⟩ : ∃ k, E.length = k := ⟨_, rfl⟩
  have HL := hideD hln
  rw [hln] at hlc hlE hJ hend'
  clear h g2 g3 g4 hC hlk hq hD hD2 hv hJ1 hJ2 hln hmid
  unfold maxLen at hcm
  obtain ⟨i0, hi0, hz0, hz1, hz2⟩ := seg_inf
  obtain ⟨j0, hj0, y0, y1, y2⟩ := u8_inf
  go_enter Try.func18, Try.ntmps18
  go_wp2
  go_quiet (exact hus _)
  go_wp2_with (first
    | (go_at_call 37; refine (hbn _).mono ?_; rintro e w1 ⟨rfl, p1, k1'⟩; clear hbn; have hf := qfind_any p1 n; rw [e1] at hf; have hK := ((hkf _).trans k1'); have hP := hideD (And.intro p1 hK); obtain ⟨p2, p3, p4, p5⟩ := id p1; have c0 := (p5 0 _ rfl).1; have HX := hideD p4; clear p1 hK p2 p3 p4 k1' hkf)
    | (go_at_call 38; refine hf.mono ?_; rintro e w2 ⟨rfl, rfl⟩; clear hf)
    | fail)
  rw [HL.out] at c0
  go_loopw [7] (fun ix wr => ∃ (j : Nat), j ≤ J ∧ ix = .int .i64 (j : Int) ∧ w1 = wr) (fun ix _ => J - (RowKit.intOf ix).toNat)
  case atStart => exact ⟨0, Nat.zero_le _, rfl, rfl⟩
  obtain ⟨j, hj, rfl, rfl⟩ := hrel
  by_cases hlt : j < J
  · have hjl : j < E.length := by rw [HL.out]; omega
    obtain ⟨g', cap', e', _, _, hgl, d0, dd1, dd2⟩ := QR.at HX.out hjl
    have hgg : g' = g := by
      simp only [Value.slice.injEq, Option.some.injEq, Addr.mk.injEq] at e'
      exact e'.1.1.symm
    subst hgg
    have hx := HJ.out.2.1 j hjl hlt
    obtain ⟨x, hxx⟩ : ∃ x, (E[j]).1 = x := ⟨_, rfl⟩
    rw [hxx] at d0 hx
    have k1 : (j : Int) < (ln : Int) := by omega
    have k2 : (0 : Int) ≤ (j : Int) := by omega
    clear hxx dd1 dd2 e'
    go_wp2
    go_roundw
    case rel => exact ⟨j + 1, hlt, by go_num, by first | rfl | trivial⟩
    case measure => simp [RowKit.intOf]; omega
  obtain rfl : j = J := by omega
  clear hlt hj
  have hjl : j < E.length := by rw [HL.out]; omega
  obtain ⟨g', cap', e', _, _, hgl, d0, dd1, dd2⟩ := QR.at HX.out hjl
  have hgg : g = g' := by
    simp only [Value.slice.injEq, Option.some.injEq, Addr.mk.injEq] at e'
    exact e'.1.1
  subst hgg
  have hx : ¬ (E[j]).1 < n := by have := HJ.out.2.2 hjl; omega
  obtain ⟨x, hxx⟩ : ∃ x, (E[j]).1 = x := ⟨_, rfl⟩
  rw [hxx] at d0 hx
  have k1 : (j : Int) < (ln : Int) := by omega
  clear hxx dd1 dd2 e'
  have k2 : (0 : Int) ≤ (j : Int) := by omega
  have k3 : (j : Int) ≤ (ln : Int) := by omega
  have k4 : ¬ (j : Int) > (ln : Int) := by omega
  have k5 : (j : Int) ≤ (cap : Int) := by omega
  have k6 : ¬ (j : Int) > (cap : Int) := by omega
  have k7 : (ln : Int) ≤ (cap : Int) := by omega
  have hK := hP.out.2
  have hsz := hK.size
  have hcl := HX.out.cells
  have hone := HX.out.one
  have HCL := hideD (And.intro hcl hone)
  clear hcl hone
  have HS1 := src_take (i := j) (c := cap) HCL.out.1 HCL.out.2 HJ.out.1
  have HO0 : w1.ownsRow w1.heap.size 56 3 (.slice none 0 0) 0 [] := World.ownsRow_nil w1 _ _ _
  have HS3 := hideD (show ∀ W, Below w1.heap.size w1 W → Src Try.prog 3 49 (.slice (some ⟨g, j * 3, none⟩) (ln - j) (cap - j)) (ln - j) (celE (E.drop j)) W from fun W hb => by
    have hl2 := HL.out
    have := src_drop (w := W) (g := g) (i := j) (c := cap - j) (E := E) (fun k u hk => (hb.cell (p := ⟨g, k, none⟩) (by show g < _; omega)).trans (HCL.out.1 k u hk)) HCL.out.2 (by omega)
    rw [hl2] at this
    exact this)
  have HT := hideD (app_ins hP.out.1 hK HQ.out HJ.out.1 HJ.out.2.1 HJ.out.2.2)
  have HP2 := hideD c0
  clear hK
  go_upto_region 18 with (first
    | (at_builtin; refine wpList_append_at _ rfl _ _ 49 49 rfl w1.heap.size 56 i0 (.agg #[.int .i64 0, .slice none 0 0, .int .i64 0]) 3 40 Try.underlying49 hi0 hz0 hz1 hz2 rfl (.slice none 0 0) 0 _ rfl HO0 _ _ _ rfl HS1 j (.inr (by omega)) (Nat.le_refl _) (by unfold maxLen; omega) (Nat.le_refl _) ?_; intro va1 wa hOa hga hata; rw [Nat.zero_add, List.nil_append] at hOa; obtain ⟨a1, ac1, rfl, hl1, hm1⟩ := ownf_form hOa; have hba : Below w1.heap.size w1 wa := (Below.refl _ _).grown hga (Nat.le_refl _) (fun k hk => by cases hk); clear hga hata HS1 HO0; have hal2 : Below w1.heap.size w1 (wa.alloc (.cells #[.int .i64 n, .slice none 0 0, .int .i64 0] 56)) := hba.alloc hba.size _; have HO2 : (wa.alloc (.cells #[.int .i64 n, .slice none 0 0, .int .i64 0] 56)).ownsRow w1.heap.size 56 3 (.slice a1 j ac1) j (celE (E.take j)) := ownsRow_keep hOa (fun q hq => ((Below.refl wa.heap.size wa).alloc (Nat.le_refl _) _).block q (World.ownsRow.lt hOa q hq).2); have HS2 : Src Try.prog 3 49 (.slice (some ⟨wa.heap.size, 0, none⟩) 1 1) 1 (celE [(n, zC)]) (wa.alloc (.cells #[.int .i64 n, .slice none 0 0, .int .i64 0] 56)) := src_one wa n)
    | (at_builtin; refine wpList_append_at _ rfl _ _ 49 49 rfl w1.heap.size 56 i0 (.agg #[.int .i64 0, .slice none 0 0, .int .i64 0]) 3 40 Try.underlying49 hi0 hz0 hz1 hz2 rfl (.slice a1 j ac1) j _ rfl HO2 _ _ _ rfl HS2 1 (.inr (by omega)) (Nat.le_refl _) (by unfold maxLen; omega) hal2.size ?_; intro vb1 wb hOb hgb hatb; obtain ⟨a3, ac3, rfl, hl3, hm3⟩ := ownf_form hOb; have hbb : Below w1.heap.size w1 wb := hal2.grown hgb hal2.size (fun k hk => (World.ownsRow.lt hOa k hk).1); clear hgb hatb HO2 HS2 hOa; have CB := (hbb.cell (p := ⟨Y, 0, none⟩) (by show Y < _; omega)).trans c0)
    | (at_builtin; refine wpList_append_at _ rfl _ _ 49 49 rfl w1.heap.size 56 i0 (.agg #[.int .i64 0, .slice none 0 0, .int .i64 0]) 3 40 Try.underlying49 hi0 hz0 hz1 hz2 rfl (.slice a3 (j + 1) ac3) (j + 1) _ rfl hOb _ _ _ rfl (HS3.out _ hbb) (ln - j) (.inr (by omega)) (Nat.le_refl _) (by unfold maxLen; omega) hbb.size ?_; intro vc1 wc hOc hgc hatc; obtain ⟨a5, ac5, rfl, hl5, hm5⟩ := ownf_form hOc; have hbc : Below w1.heap.size w1 wc := hbb.grown hgc hbb.size (fun k hk => (World.ownsRow.lt hOb k hk).1); obtain ⟨⟨uc, U0⟩, U1, HZ0⟩ := HT.out _ _ (by rw [HL.out]; exact hOc) hbc; have HZ := hideD HZ0; clear HZ0; clear hgc hatc hOc hOb)
    | fail)
  clear HS3 HT HP2 U1 hbc hbb hal2 hba CB
  have hN0 : j < j + 1 + (ln - j) ∧ j + 1 + (ln - j) ≤ 100001 := by omega
  generalize hw3 : wc.setCell ⟨Y, 0, none⟩ (.slice a5 (j + 1 + (ln - j)) ac5) = w3 at HZ ⊢
  clear hw3 U0
  generalize j + 1 + (ln - j) = N at HZ hN0 hl5
  have hz3 := HZ.out
  clear HZ
  generalize hE1 : pt n zC E = E1 at hz3
  generalize hs : zC = s at hz3
  obtain ⟨sv, sb, sn⟩ := s
  obtain ⟨P1, hK3, hq3, hlen3, hi3, e3⟩ := hz3
  have HS := hideD hs
  have HQ3 := hideD hq3
  have H3 := hideD e3
  clear hs hE1 hq3 hlen3 e3 c0 p5 HX hP HCL HQ HJ hsz
  have hsz := hK3.size
  obtain ⟨p2, p3, p4, p5⟩ := id P1
  have c0 := (p5 0 _ rfl).1
  obtain ⟨g3, cap3, e', hc1, hc2, hgl3, x0, d1, x2⟩ := p4.at hi3
  simp only [Value.slice.injEq] at e'
  obtain ⟨rfl, hN, rfl⟩ := e'
  obtain ⟨ho, hof⟩ := p4.s _ (List.getElem_mem hi3)
  rw [H3.out] at ho hof d1
  simp only at ho hof d1
  obtain ⟨sa, sc, rfl, hsl, hsm⟩ := slice_form ho
  have hsb : sb.length = 0 := by
    have := HS.out
    simp only [zC, Prod.mk.injEq] at this
    rw [← this.2.1]
    rfl
  have HDE := hideD (show pt n (sb ++ bs, sn) (pt n ([], 0) (brn d).L) = pt n (bs, 0) d.L from by
    have := HS.out
    simp only [zC, Prod.mk.injEq] at this
    rw [← this.2.1, ← this.2.2, hbL.out]
    exact pt_pt hris.out)
  have hsb2 : sb.length ≤ 0 := by omega
  clear x0 x2 hof hN hsb
  have hal : Below w3.heap.size w3 (w3.alloc (.cells #[] 5)).drew := ((Below.refl _ _).alloc (Nat.le_refl _) _).drew
  have hown : (w3.alloc (.cells #[] 5)).drew.ownsRow w3.heap.size 5 1 (.slice (some ⟨w3.heap.size, 0, none⟩) 0 0) 0 [] := World.ownsRow_made w3 #[] 0 (Nat.le_refl _) (Nat.zero_le _) rfl
  have HS1 := hideD ((rd_on ho.rd hal).src (t := 30) (e := 5) Try.underlying30)
  have HS2 := hideD (show ∀ W, Below w3.heap.size w3 W → Src Try.prog 1 30 (.slice va bs.length vc) bs.length (bs.map (Value.int .u8)) W from fun W hb => (HV.out W (hK3.trans (Kf.of hb (Nat.le_refl _)))).src (t := 30) (e := 5) Try.underlying30)
  have HT := hideD (app_tail (bs := bs) P1 hK3 hYl hi3 H3.out HQ3.out)
  have C0 : (w3.alloc (.cells #[] 5)).drew.cell? ⟨Y, 0, none⟩ = some (.slice (some ⟨g3, 0, none⟩) N ac5) := (hal.cell (p := ⟨Y, 0, none⟩) (by show Y < _; omega)).trans c0
  have D1 : (w3.alloc (.cells #[] 5)).drew.cell? ⟨g3, j * 3 + 1, none⟩ = some (.slice sa sb.length sc) := (hal.cell (p := ⟨g3, j * 3 + 1, none⟩) (by show g3 < _; omega)).trans d1
  have hga1 : ∀ (wa : World), (w3.alloc (.cells #[] 5)).drew.grownBy wa (Value.slice (some ⟨w3.heap.size, 0, none⟩) 0 0).ownBlock → Below w3.heap.size w3 wa := fun wa hg => hal.grown hg (by show w3.heap.size ≤ (w3.alloc _).heap.size; simp) (fun k hk => by have : w3.heap.size = k := Option.some.inj hk; omega)
  have m1 : (j : Int) < (N : Int) := by omega
  clear p2 p3 p4 p5 ho
  go_region_law (first
    | (refine step_append_at _ (by rfl) (.tmp 87) (.tmp 95) 30 30 (by rfl) w3.heap.size 5 j0 (.int .u8 0) 1 1 Try.underlying30 hj0 y0 y1 y2 rfl (.slice (some ⟨w3.heap.size, 0, none⟩) 0 0) 0 [] (by rfl) hown _ sb.length (sb.map (Value.int .u8)) (by rfl) HS1.out sb.length (.inr (by omega)) (Nat.le_refl _) (by unfold maxLen; omega) (by show w3.heap.size ≤ (w3.alloc _).heap.size; simp) ?_; intro va1 wa hOa hga hata; rw [Nat.zero_add, List.nil_append] at hOa; obtain ⟨a1, ac1, rfl, hl1, hm1⟩ := ownf_form hOa; have hba := hga1 wa hga; have C2 := (hba.cell (p := ⟨Y, 0, none⟩) (by show Y < _; omega)).trans c0)
    | (refine step_append_at _ (by rfl) (.tmp 96) (.tmp 97) 30 30 (by rfl) w3.heap.size 5 j0 (.int .u8 0) 1 1 Try.underlying30 hj0 y0 y1 y2 rfl (.slice a1 sb.length ac1) sb.length (sb.map (Value.int .u8)) (by rfl) hOa _ bs.length (bs.map (Value.int .u8)) (by rfl) (HS2.out _ hba) bs.length (.inr (by omega)) (Nat.le_refl _) (by unfold maxLen; omega) hba.size ?_; intro vb wb hOb hgb hatb; obtain ⟨a3, c3', rfl, hl3, hm3⟩ := ownf_form hOb; have hbb := hba.grown hgb hba.size (fun k hk => (World.ownsRow.lt hOa k hk).1); have C3 := (hbb.cell (p := ⟨Y, 0, none⟩) (by show Y < _; omega)).trans c0; obtain ⟨D3, F3, HZ⟩ := HT.out _ _ hOb hbb; have HZ := hideD HZ)
    | fail)
  all_goals
    go_wp2
    go_ret
    refine ⟨rfl, ?_, HZ.out.2⟩
    have h2 : QD _ Y (nF G w) { brn d with L := pt n (sb ++ bs, sn) (pt n ([], 0) (brn d).L) } := HZ.out.1
    rw [HDE.out] at h2
    rw [← HD.out]
    exact h2

set_option maxRecDepth 100000 in
set_option maxHeartbeats 8000000 in
theorem qapp_nil {w : World} {Y : Nat} {G : Nat → Prop} {d : Dk} {n : Int} {v : Value} {bs : List Int} {Lv : Value} {E : List (Int × Sv)} {J : Nat} (h : QDE w Y G d Lv E) (hfu : d.fuse ≤ 9223372036854775807) (hro : 0 ≤ d.room ∧ d.room ≤ 9223372036854775807)
    (hl : d.L.length ≤ 100000) (hu : usM d.L ≤ 1000000) (hb : bs.length ≤ 1000000) (hv : ∀ w1, Kf G w w1 → Rd w1 v bs) (hd : d.dead = false) (hn0 : ¬ n < 0) (hr : ¬ (bs.length : Int) > d.room - (usM d.L : Int)) (hz : ¬ d.fuse = 0) (hq : lk n E = none)
    (hJ : J ≤ E.length) (hJ1 : ∀ k (h : k < E.length), k < J → (E[k]).1 < n) (hJ2 : ∀ h : J < E.length, n < (E[J]).1) (hLv : Lv = .slice none 0 0) (hE : E.length = 0) :
    Calls Try.prog 18 #[.pointer (some ⟨Y, 0, none⟩), .int .i64 n, v] w fun e w' => e = .returned (.int .i64 (appD d n bs).2) ∧ QD w' Y (nF G w) (appD d n bs).1 ∧ Kf G w w' := by
  have hus := h.usq hu
  obtain ⟨va, vc, rfl, hvl, hvm, _⟩ := id (hv w (Kf.refl G w))
  obtain ⟨g1, g2, g3, g4⟩ := id h
  have hYl := g4.lt
  obtain ⟨c1, f1⟩ := g4 1 _ rfl
  obtain ⟨c3, f3⟩ := g4 3 _ rfl
  rw [hd] at c3
  have hw1 : IntKind.i64.wrap (d.room - (usM d.L : Int)) = d.room - (usM d.L : Int) := by rw [IntKind.wrap_i64]; omega
  have hC := h.clip
  have hbn := fun m => qburn_any (w := w.drewN m) (hC.keep (fun _ _ _ => rfl) (fun _ _ h => h)) hfu
  simp only [decide_eq_true (show d.fuse ≠ 0 from hz)] at hbn
  have hkf := fun m => (Kf.refl (cF G w) w).drewN m
  have hlk := mmE_lk n E
  rw [g2, hq] at hlk
  simp only [Option.map_none] at hlk
  have hD : appD d n bs = ({ brn d with L := pt n (bs, 0) d.L }, 0) := by
    unfold appD
    rw [if_neg (by simp [hd]), if_neg hn0, if_neg hr, if_neg hz, hlk]
    rfl
  rw [hD]
  obtain ⟨D, hD2⟩ : ∃ D : Dk, { brn d with L := pt n (bs, 0) d.L } = D := ⟨_, rfl⟩
  simp only [hD2]
  have HD := hideD hD2
  have hbL := hideD (brn_L d).1
  have hris := hideD (show Ris d.L by rw [← g2]; exact ris_mmE g3.r)
  have hlE : E.length ≤ 100000 := by rw [← g2] at hl; simpa [mmE] using hl
  have e1 := fI_no 0 hq
  have HV := hideD hv
  have HQ := hideD hq
  have HJ := hideD (And.intro hJ (And.intro hJ1 hJ2))
  obtain ⟨cap, hcap⟩ : ∃ k : Nat, 0 = k := ⟨_, rfl⟩
  obtain rfl : Lv = .slice none E.length cap := by rw [hLv, hE, ← hcap]
  have hlc : E.length ≤ cap := by omega
  have hcm : cap ≤ maxLen := by unfold maxLen; omega
  have hend' : J = E.length := by omega
  obtain ⟨ln, hln⟩ : ∃ k, E.length = k := ⟨_, rfl⟩
  have HL := hideD hln
  rw [hln] at hlc hlE hJ hend'
  have HEND := hideD hend'
  have HEND2 := hideD (show ln = 0 by omega)
  clear h g2 g3 g4 hC hlk hq hD hD2 hv hJ1 hJ2 hln hend' hcap hE hLv
  unfold maxLen at hcm
  obtain ⟨i0, hi0, hz0, hz1, hz2⟩ := seg_inf
  obtain ⟨j0, hj0, y0, y1, y2⟩ := u8_inf
  go_enter Try.func18, Try.ntmps18
  go_wp2
  go_quiet (exact hus _)
  go_wp2_with (first
    | (go_at_call 37; refine (hbn _).mono ?_; rintro e w1 ⟨rfl, p1, k1'⟩; clear hbn; have hf := qfind_any p1 n; rw [e1] at hf; have hK := ((hkf _).trans k1'); have hP := hideD (And.intro p1 hK); obtain ⟨p2, p3, p4, p5⟩ := id p1; have c0 := (p5 0 _ rfl).1; have HX := hideD p4; clear p1 hK p2 p3 p4 k1' hkf)
    | (go_at_call 38; refine hf.mono ?_; rintro e w2 ⟨rfl, rfl⟩; clear hf)
    | fail)
  rw [HL.out] at c0
  go_loopw [7] (fun ix wr => ∃ (j : Nat), j ≤ J ∧ ix = .int .i64 (j : Int) ∧ w1 = wr) (fun ix _ => J - (RowKit.intOf ix).toNat)
  case atStart => exact ⟨0, Nat.zero_le _, rfl, rfl⟩
  obtain ⟨j, hj, rfl, rfl⟩ := hrel
  obtain rfl : j = J := by have := HEND.out; have := HEND2.out; omega
  clear hj
  have k1 : ¬ (j : Int) < (ln : Int) := by have := HEND.out; omega
  have k2 : (0 : Int) ≤ (j : Int) := by omega
  have k3 : (j : Int) ≤ (ln : Int) := by omega
  have k4 : ¬ (j : Int) > (ln : Int) := by omega
  have k5 : (j : Int) ≤ (cap : Int) := by omega
  have k6 : ¬ (j : Int) > (cap : Int) := by omega
  have k7 : (ln : Int) ≤ (cap : Int) := by omega
  have hK := hP.out.2
  have hsz := hK.size
  have HS1 : Src Try.prog 3 49 (.slice none j cap) j (celE (E.take j)) w1 := src_nil1 (by have := HEND.out; have := HEND2.out; omega)
  have HO0 : w1.ownsRow w1.heap.size 56 3 (.slice none 0 0) 0 [] := World.ownsRow_nil w1 _ _ _
  have HS3 := hideD (show ∀ W, Below w1.heap.size w1 W → Src Try.prog 3 49 (.slice none (ln - j) (cap - j)) (ln - j) (celE (E.drop j)) W from fun W hb => src_nil2 (by have := HEND.out; omega) (List.drop_eq_nil_of_le (by have := HL.out; have := HEND.out; omega)))
  have HT := hideD (app_ins hP.out.1 hK HQ.out HJ.out.1 HJ.out.2.1 HJ.out.2.2)
  have HP2 := hideD c0
  clear hK
  go_upto_region 18 with (first
    | (at_builtin; refine wpList_append_at _ rfl _ _ 49 49 rfl w1.heap.size 56 i0 (.agg #[.int .i64 0, .slice none 0 0, .int .i64 0]) 3 40 Try.underlying49 hi0 hz0 hz1 hz2 rfl (.slice none 0 0) 0 _ rfl HO0 _ _ _ rfl HS1 j (.inr (by omega)) (Nat.le_refl _) (by unfold maxLen; omega) (Nat.le_refl _) ?_; intro va1 wa hOa hga hata; rw [Nat.zero_add, List.nil_append] at hOa; obtain ⟨a1, ac1, rfl, hl1, hm1⟩ := ownf_form hOa; have hba : Below w1.heap.size w1 wa := (Below.refl _ _).grown hga (Nat.le_refl _) (fun k hk => by cases hk); clear hga hata HS1 HO0; have hal2 : Below w1.heap.size w1 (wa.alloc (.cells #[.int .i64 n, .slice none 0 0, .int .i64 0] 56)) := hba.alloc hba.size _; have HO2 : (wa.alloc (.cells #[.int .i64 n, .slice none 0 0, .int .i64 0] 56)).ownsRow w1.heap.size 56 3 (.slice a1 j ac1) j (celE (E.take j)) := ownsRow_keep hOa (fun q hq => ((Below.refl wa.heap.size wa).alloc (Nat.le_refl _) _).block q (World.ownsRow.lt hOa q hq).2); have HS2 : Src Try.prog 3 49 (.slice (some ⟨wa.heap.size, 0, none⟩) 1 1) 1 (celE [(n, zC)]) (wa.alloc (.cells #[.int .i64 n, .slice none 0 0, .int .i64 0] 56)) := src_one wa n)
    | (at_builtin; refine wpList_append_at _ rfl _ _ 49 49 rfl w1.heap.size 56 i0 (.agg #[.int .i64 0, .slice none 0 0, .int .i64 0]) 3 40 Try.underlying49 hi0 hz0 hz1 hz2 rfl (.slice a1 j ac1) j _ rfl HO2 _ _ _ rfl HS2 1 (.inr (by omega)) (Nat.le_refl _) (by unfold maxLen; omega) hal2.size ?_; intro vb1 wb hOb hgb hatb; obtain ⟨a3, ac3, rfl, hl3, hm3⟩ := ownf_form hOb; have hbb : Below w1.heap.size w1 wb := hal2.grown hgb hal2.size (fun k hk => (World.ownsRow.lt hOa k hk).1); clear hgb hatb HO2 HS2 hOa; have CB := (hbb.cell (p := ⟨Y, 0, none⟩) (by show Y < _; omega)).trans c0)
    | (at_builtin; refine wpList_append_at _ rfl _ _ 49 49 rfl w1.heap.size 56 i0 (.agg #[.int .i64 0, .slice none 0 0, .int .i64 0]) 3 40 Try.underlying49 hi0 hz0 hz1 hz2 rfl (.slice a3 (j + 1) ac3) (j + 1) _ rfl hOb _ _ _ rfl (HS3.out _ hbb) (ln - j) (.inr (by omega)) (Nat.le_refl _) (by unfold maxLen; omega) hbb.size ?_; intro vc1 wc hOc hgc hatc; obtain ⟨a5, ac5, rfl, hl5, hm5⟩ := ownf_form hOc; have hbc : Below w1.heap.size w1 wc := hbb.grown hgc hbb.size (fun k hk => (World.ownsRow.lt hOb k hk).1); obtain ⟨⟨uc, U0⟩, U1, HZ0⟩ := HT.out _ _ (by rw [HL.out]; exact hOc) hbc; have HZ := hideD HZ0; clear HZ0; clear hgc hatc hOc hOb)
    | fail)
  clear HS3 HT HP2 U1 hbc hbb hal2 hba CB
  have hN0 : j < j + 1 + (ln - j) ∧ j + 1 + (ln - j) ≤ 100001 := by omega
  generalize hw3 : wc.setCell ⟨Y, 0, none⟩ (.slice a5 (j + 1 + (ln - j)) ac5) = w3 at HZ ⊢
  clear hw3 U0
  generalize j + 1 + (ln - j) = N at HZ hN0 hl5
  have hz3 := HZ.out
  clear HZ
  generalize hE1 : pt n zC E = E1 at hz3
  generalize hs : zC = s at hz3
  obtain ⟨sv, sb, sn⟩ := s
  obtain ⟨P1, hK3, hq3, hlen3, hi3, e3⟩ := hz3
  have HS := hideD hs
  have HQ3 := hideD hq3
  have H3 := hideD e3
  clear hs hE1 hq3 hlen3 e3 c0 p5 HX hP HQ HJ hsz
  have hsz := hK3.size
  obtain ⟨p2, p3, p4, p5⟩ := id P1
  have c0 := (p5 0 _ rfl).1
  obtain ⟨g3, cap3, e', hc1, hc2, hgl3, x0, d1, x2⟩ := p4.at hi3
  simp only [Value.slice.injEq] at e'
  obtain ⟨rfl, hN, rfl⟩ := e'
  obtain ⟨ho, hof⟩ := p4.s _ (List.getElem_mem hi3)
  rw [H3.out] at ho hof d1
  simp only at ho hof d1
  obtain ⟨sa, sc, rfl, hsl, hsm⟩ := slice_form ho
  have hsb : sb.length = 0 := by
    have := HS.out
    simp only [zC, Prod.mk.injEq] at this
    rw [← this.2.1]
    rfl
  have HDE := hideD (show pt n (sb ++ bs, sn) (pt n ([], 0) (brn d).L) = pt n (bs, 0) d.L from by
    have := HS.out
    simp only [zC, Prod.mk.injEq] at this
    rw [← this.2.1, ← this.2.2, hbL.out]
    exact pt_pt hris.out)
  have hsb2 : sb.length ≤ 0 := by omega
  clear x0 x2 hof hN hsb
  have hal : Below w3.heap.size w3 (w3.alloc (.cells #[] 5)).drew := ((Below.refl _ _).alloc (Nat.le_refl _) _).drew
  have hown : (w3.alloc (.cells #[] 5)).drew.ownsRow w3.heap.size 5 1 (.slice (some ⟨w3.heap.size, 0, none⟩) 0 0) 0 [] := World.ownsRow_made w3 #[] 0 (Nat.le_refl _) (Nat.zero_le _) rfl
  have HS1 := hideD ((rd_on ho.rd hal).src (t := 30) (e := 5) Try.underlying30)
  have HS2 := hideD (show ∀ W, Below w3.heap.size w3 W → Src Try.prog 1 30 (.slice va bs.length vc) bs.length (bs.map (Value.int .u8)) W from fun W hb => (HV.out W (hK3.trans (Kf.of hb (Nat.le_refl _)))).src (t := 30) (e := 5) Try.underlying30)
  have HT := hideD (app_tail (bs := bs) P1 hK3 hYl hi3 H3.out HQ3.out)
  have C0 : (w3.alloc (.cells #[] 5)).drew.cell? ⟨Y, 0, none⟩ = some (.slice (some ⟨g3, 0, none⟩) N ac5) := (hal.cell (p := ⟨Y, 0, none⟩) (by show Y < _; omega)).trans c0
  have D1 : (w3.alloc (.cells #[] 5)).drew.cell? ⟨g3, j * 3 + 1, none⟩ = some (.slice sa sb.length sc) := (hal.cell (p := ⟨g3, j * 3 + 1, none⟩) (by show g3 < _; omega)).trans d1
  have hga1 : ∀ (wa : World), (w3.alloc (.cells #[] 5)).drew.grownBy wa (Value.slice (some ⟨w3.heap.size, 0, none⟩) 0 0).ownBlock → Below w3.heap.size w3 wa := fun wa hg => hal.grown hg (by show w3.heap.size ≤ (w3.alloc _).heap.size; simp) (fun k hk => by have : w3.heap.size = k := Option.some.inj hk; omega)
  have m1 : (j : Int) < (N : Int) := by omega
  clear p2 p3 p4 p5 ho
  go_region_law (first
    | (refine step_append_at _ (by rfl) (.tmp 87) (.tmp 95) 30 30 (by rfl) w3.heap.size 5 j0 (.int .u8 0) 1 1 Try.underlying30 hj0 y0 y1 y2 rfl (.slice (some ⟨w3.heap.size, 0, none⟩) 0 0) 0 [] (by rfl) hown _ sb.length (sb.map (Value.int .u8)) (by rfl) HS1.out sb.length (.inr (by omega)) (Nat.le_refl _) (by unfold maxLen; omega) (by show w3.heap.size ≤ (w3.alloc _).heap.size; simp) ?_; intro va1 wa hOa hga hata; rw [Nat.zero_add, List.nil_append] at hOa; obtain ⟨a1, ac1, rfl, hl1, hm1⟩ := ownf_form hOa; have hba := hga1 wa hga; have C2 := (hba.cell (p := ⟨Y, 0, none⟩) (by show Y < _; omega)).trans c0)
    | (refine step_append_at _ (by rfl) (.tmp 96) (.tmp 97) 30 30 (by rfl) w3.heap.size 5 j0 (.int .u8 0) 1 1 Try.underlying30 hj0 y0 y1 y2 rfl (.slice a1 sb.length ac1) sb.length (sb.map (Value.int .u8)) (by rfl) hOa _ bs.length (bs.map (Value.int .u8)) (by rfl) (HS2.out _ hba) bs.length (.inr (by omega)) (Nat.le_refl _) (by unfold maxLen; omega) hba.size ?_; intro vb wb hOb hgb hatb; obtain ⟨a3, c3', rfl, hl3, hm3⟩ := ownf_form hOb; have hbb := hba.grown hgb hba.size (fun k hk => (World.ownsRow.lt hOa k hk).1); have C3 := (hbb.cell (p := ⟨Y, 0, none⟩) (by show Y < _; omega)).trans c0; obtain ⟨D3, F3, HZ⟩ := HT.out _ _ hOb hbb; have HZ := hideD HZ)
    | fail)
  all_goals
    go_wp2
    go_ret
    refine ⟨rfl, ?_, HZ.out.2⟩
    have h2 : QD _ Y (nF G w) { brn d with L := pt n (sb ++ bs, sn) (pt n ([], 0) (brn d).L) } := HZ.out.1
    rw [HDE.out] at h2
    rw [← HD.out]
    exact h2
end Go.Proofs.Ytibmbbiipffooaa
