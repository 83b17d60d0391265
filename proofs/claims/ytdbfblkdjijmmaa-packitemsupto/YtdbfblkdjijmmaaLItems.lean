/- What theirs does; the walk of PackItems. -/
import Derived.Test.YtdbfblkdjijmmaaItemsR
import Derived.Test.YtdbfblkdjijmmaaReadP
namespace Go.Proofs.Ytdbfblkdjijmmaa
open Go.RowKit
set_option linter.unusedSimpArgs false
set_option linter.unusedVariables false

theorem Try.infoR : (Try.prog.info? 55).map (fun i => (i.zero, i.size, i.bytes)) = some (some (.agg #[.bool false, .int .i64 0, .string ⟨#[]⟩]), 3, 32) := by kernel_rfl

set_option maxHeartbeats 1000000 in
theorem theirs_any (v : Value) (l : List It) (w : World) (h : RdI w v l) (hl : l.length ≤ 1048576) (i0 : TypeInfo) (hi : Try.prog.info? 53 = some i0) (hz0 : i0.zero = some (.agg #[.bool false, .int .i64 0, .string ⟨#[]⟩])) (hz1 : i0.size = 3) (hz2 : i0.bytes = 32) :
    Calls Try.prog 18 #[v] w fun e w' => ∃ u, e = .returned u ∧ OwnI w' w.heap.size 53 u l ∧ Below w.heap.size w w' := by
  by_cases hn : l.length = 0
  · obtain rfl : l = [] := List.length_eq_zero_iff.1 hn
    obtain ⟨a, cap, rfl, hc, hm, hnone, hcell⟩ := h
    simp only [List.length_nil]
    go_enter Try.func18, Try.ntmps18
    go_wp2
    refine wp_loop_rounds 1 ?_
    rw [rounds_succ]
    go_wp2
    go_ret
    exact ⟨_, rfl, ownI_nil _ _ _, Below.refl _ _⟩
  · obtain ⟨b, off, cap, rfl, hc, hm, hbl, hcell⟩ := h.lies (by omega)
    have HC : Hid (∀ (i : Nat) (h : i < l.length), w.cell? ⟨b, off + i * 3, none⟩ = some (.bool (l[i]).1) ∧ w.cell? ⟨b, off + i * 3 + 1, none⟩ = some (.int .i64 (l[i]).2.1) ∧ w.cell? ⟨b, off + i * 3 + 2, none⟩ = some (.string (l[i]).2.2)) := hcell
    clear hcell h hn
    unfold maxLen at hm
    go_enter Try.func18, Try.ntmps18
    go_wp2
    go_loopw [3, 7] (fun u i wr => ∃ j : Nat, j ≤ l.length ∧ i = .int .i64 j ∧ OwnI wr w.heap.size 53 u (l.take j) ∧ Below w.heap.size w wr) (fun _ i _ => l.length - (intOf i).toNat)
    case atStart => exact ⟨0, Nat.zero_le _, rfl, ownI_nil _ _ _, Below.refl _ _⟩
    case round =>
      obtain ⟨j, hj, rfl, ho, hbel⟩ := hrel
      by_cases hlt : j < l.length
      · obtain ⟨e0, e1, e2⟩ := HC.out j hlt
        obtain ⟨⟨xt, xn, xs⟩, hx⟩ : ∃ x, x = l[j] := ⟨_, rfl⟩
        rw [← hx] at e0 e1 e2
        have c0 := (hbel.cell (p := ⟨b, off + j * 3, none⟩) hbl).trans e0
        have c1 := (hbel.cell (p := ⟨b, off + j * 3 + 1, none⟩) hbl).trans e1
        have c2 := (hbel.cell (p := ⟨b, off + j * 3 + 2, none⟩) hbl).trans e2
        have htk : (l.take j).length = j := by rw [List.length_take]; omega
        have HT : Hid (l.take (j + 1) = l.take j ++ [(xt, xn, xs)]) := by show _ = _; rw [take_snoc l j hlt, hx]
        have ho2 := ho.alloc (.cells #[.bool xt, .int .i64 xn, .string xs] 53)
        clear e0 e1 e2 hx
        go_wp2_with (first
          | (at_builtin; refine wpList_append_both _ rfl (.tmp 10) (.tmp 15) 40 40 rfl w.heap.size 53 i0 (.agg #[.bool false, .int .i64 0, .string ⟨#[]⟩]) 3 32 Try.underlying40 hi hz0 hz1 hz2 rfl _ (l.take j).length _ rfl ho2 _ 1 (cel (xt, xn, xs)) rfl (src_item Try.underlying40 wr (xt, xn, xs) rfl) 1 (.inr (by omega)) (Nat.le_refl _) (by unfold maxLen; omega) (by have := hbel.size; simp; omega) ?_; intro v3 w3 ho3 hg3 _))
        go_roundw
        case rel => exact ⟨j + 1, hlt, by go_num, by rw [HT.out]; exact ownI_snoc ho3, (hbel.alloc hbel.size _).grown hg3 (by have := hbel.size; simp; omega) (fun k hk => (ho.lt k hk).1)⟩
        case measure => simp [intOf]; omega
      · go_wp2
        go_ret
        rw [List.take_of_length_le (by omega)] at ho
        exact ⟨_, rfl, ho, hbel⟩


/-- A number and a text that fit. -/
def small (x : It) : Prop := -9223372036854775808 ≤ x.2.1 ∧ x.2.1 ≤ 9223372036854775807 ∧ x.2.2.size ≤ 9223372036854775807
theorem readS_items {l : List It} (hs : ∀ x ∈ l, small x) (h : (itemsS l).2 = 0) : readS (itemsS l).1 = some l := by
  cases ha : l.any badI with
  | true => simp [itemsS, ha] at h
  | false =>
    by_cases h4 : 4000 < l.length
    · simp [itemsS, ha, h4] at h
    · have e : itemsS l = (nb l.length ++ ibs l, 0) := by simp [itemsS, ha, h4]
      rw [e]
      refine readS_ok (fun x hx => ?_) h4
      have hb := List.any_eq_false.1 ha x hx
      exact ⟨by simpa using hb, hs x hx⟩
theorem itemsS_err (l : List It) : (itemsS l).2 = 0 ∨ (itemsS l).2 = 1 ∨ (itemsS l).2 = 4 := by
  unfold itemsS
  split
  · exact .inr (.inl rfl)
  · split
    · exact .inr (.inr rfl)
    · exact .inl rfl

set_option maxHeartbeats 1000000 in
theorem packItems_walk {w : World} (lv : Value) (l : List It) (hr : RdI w lv l) (hs : ∀ x ∈ l, small x) (hl : l.length + txts l ≤ 1048576) :
    Calls Try.prog 8 #[lv] w fun e w' => e = .returned (.bool true) ∧ Below w.heap.size w w' := by
  obtain ⟨p0, pi, pz0, pz1, pz2⟩ := info_parts Try.infoP
  obtain ⟨r0, ri, rz0, rz1, rz2⟩ := info_parts Try.infoR
  have hr0 := hr
  obtain ⟨a, cap, rfl, hc, hm, _, _⟩ := hr0
  unfold maxLen at hm
  by_cases h5 : 5000 < l.length
  · have h1 := number_any (.slice none 0 0) [] 1 w (rd_nil w) (by simp)
    have e : nb 1 = [1, 1] := by decide
    rw [e] at h1
    go_enter Try.func8, Try.ntmps8
    go_wp2_with (first
      | (go_at_call 9; refine h1.mono ?_; rintro e w1 ⟨v1, rfl, ho1, hb1⟩; obtain ⟨x, xo, xc, hv1, _, _, _⟩ := ho1.rd.lies (by simp); subst hv1))
    go_ret
    exact ⟨rfl, hb1⟩
  · have h1 := theirs_any _ l w hr (by omega) p0 pi pz0 pz1 pz2
    have h2 : ∀ w1 v1, RdI w1 v1 l → _ := fun w1 v1 h => items_any v1 l w1 h (by omega) (by omega)
    have h3 : ∀ w2, RdI w2 (.slice a l.length cap) l → _ := fun w2 h => refItems_any _ l w2 h (by omega) (by omega)
    have hby := itemsS_bytes l
    have hz : (itemsS l).2 = 0 → readS (itemsS l).1 = some l := readS_items hs
    obtain ⟨⟨B, E⟩, hBE⟩ : ∃ x, x = itemsS l := ⟨_, rfl⟩
    rw [← hBE] at h2 h3 hby hz
    dsimp only at h2 h3 hby hz
    have h4 : ∀ w3 u, Rd w3 u B → _ := fun w3 u h => read_any u B w3 h hby
    clear hBE hby hs
    by_cases hE : E = 0
    · subst hE
      have hz := hz rfl
      rw [hz] at h4
      go_enter Try.func8, Try.ntmps8
      go_wp2_with (first
        | (go_at_call 18; refine h1.mono ?_; rintro e w1 ⟨v1, rfl, ho1, bel1⟩)
        | (go_at_call 17; refine (h2 w1 v1 ho1.rd).mono ?_; rintro e w2 ⟨u1, rfl, o1, hb2⟩; have bel2 := bel1.trans (hb2.mono bel1.size); have rl2 := hr.below bel2 (Nat.le_refl _))
        | (go_at_call 19; refine (h3 w2 rl2).mono ?_; rintro e w3 ⟨u2, rfl, o2, hb3⟩; have bel3 := bel2.trans (hb3.mono bel2.size); have cv1 := rd_conv (o1.rd.below hb3 (Nat.le_refl _)); have cv2 := rd_conv o2.rd)
        | (go_at_call 20; refine (h4 w3 u2 o2.rd).mono ?_; rintro e w4 ⟨v5, rfl, o5, hb4⟩; have bel4 := bel3.trans (hb4.mono bel3.size); have r5 : RdI w4 v5 l := o5.rd)
        | (go_at_call 22; refine (ours_any v5 l w4 r5 (by omega) r0 ri rz0 rz1 rz2).mono ?_; rintro e w5 ⟨v6, rfl, o6, hb5⟩; have bel5 := bel4.trans (hb5.mono bel4.size); have rl5 := hr.below bel5 (Nat.le_refl _))
        | (go_at_call 21; refine (same_any v6 _ l w5 o6.rd rl5 (by omega)).mono ?_; rintro e w6 ⟨rfl, hb6⟩; have bel6 := bel5.trans (hb6.mono bel5.size)))
      go_ret
      exact ⟨rfl, bel6⟩
    · have hE' : (E != 0) = true := by simpa using hE
      clear hz
      go_enter Try.func8, Try.ntmps8
      go_wp2_with (first
        | (go_at_call 18; refine h1.mono ?_; rintro e w1 ⟨v1, rfl, ho1, bel1⟩)
        | (go_at_call 17; refine (h2 w1 v1 ho1.rd).mono ?_; rintro e w2 ⟨u1, rfl, o1, hb2⟩; have bel2 := bel1.trans (hb2.mono bel1.size); have rl2 := hr.below bel2 (Nat.le_refl _))
        | (go_at_call 19; refine (h3 w2 rl2).mono ?_; rintro e w3 ⟨u2, rfl, o2, hb3⟩; have bel3 := bel2.trans (hb3.mono bel2.size); have cv1 := rd_conv (o1.rd.below hb3 (Nat.le_refl _)); have cv2 := rd_conv o2.rd)
        | (go_at_call 20; refine (h4 w3 u2 o2.rd).mono ?_; rintro e w4 ⟨v5, rfl, o5, hb4⟩; have bel4 := bel3.trans (hb4.mono bel3.size)))
      go_ret
      exact ⟨rfl, bel4⟩

end Go.Proofs.Ytdbfblkdjijmmaa
