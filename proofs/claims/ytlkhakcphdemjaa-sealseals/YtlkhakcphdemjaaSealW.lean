/- What addTwo, two, and both Seals do. -/
import Derived.Test.YtlkhakcphdemjaaCrcW
namespace Go.Proofs.Ytlkhakcphdemjaa
open Go.RowKit
set_option linter.unusedSimpArgs false
set_option linter.unusedVariables false

/-- A number in two bytes, the highest first. -/
def tw (n : Int) : List Int := [IntKind.u8.wrap (n / 256), IntKind.u8.wrap n]
/-- A sealed record's head: the length, and its sum. -/
def hd (n : Int) : List Int := tw n ++ tw (sm (tw n))
/-- A sealed record. -/
def rcd (xs : List Int) : List Int := hd xs.length ++ xs ++ tw (sm (hd xs.length ++ xs))
def sealS (xs : List Int) : List Int × Int := if xs.length = 0 then ([], 1) else if 14000 < xs.length then ([], 4) else (rcd xs, 0)

theorem tw_length (n : Int) : (tw n).length = 2 := rfl
theorem hd_length (n : Int) : (hd n).length = 4 := rfl
theorem rcd_length (xs : List Int) : (rcd xs).length = xs.length + 6 := by simp [rcd, hd_length, tw_length]; omega

theorem sealS_arg {xs : List Int} (h : xs.length = 0) : sealS xs = ([], 1) := by unfold sealS; rw [if_pos h]
theorem sealS_long {xs : List Int} (h : 14000 < xs.length) : sealS xs = ([], 4) := by unfold sealS; rw [if_neg (by omega), if_pos h]
theorem sealS_ok {xs : List Int} (h : xs.length ≠ 0) (h2 : ¬ 14000 < xs.length) : sealS xs = (rcd xs, 0) := by unfold sealS; rw [if_neg h, if_neg h2]
theorem sealS_len (xs : List Int) : (sealS xs).1.length ≤ 14006 := by
  unfold sealS
  split
  · simp
  · split
    · simp
    · simp only [rcd_length]; omega

theorem own_none (w : World) (base : Nat) : Own w base 5 (.slice none 0 0) [] := World.ownsRow_nil w base 5 1

theorem Own.below {w w' : World} {base : Nat} {e : TypeId} {v : Value} {xs : List Int} {B : Nat} (h : Own w base e v xs) (hb : Below B w w') (hB : w.heap.size ≤ B) : Own w' base e v xs := by
  refine ⟨h.1, ?_⟩
  rcases h.2 with hn | ⟨g, cap, cur, rfl, hbg, hg, rest⟩
  · exact .inl hn
  · refine .inr ⟨g, cap, cur, rfl, hbg, ?_, rest⟩
    rw [hb.block g (by have := (Array.getElem?_eq_some_iff.1 hg).1; omega)]
    exact hg

/-- A byte of a slice of the call's own is stored. -/
theorem own_store {w : World} {base g len cap j : Nat} {xs : List Int} {c : Int} (hl : xs.length = len) (hj : j < len) (h : Own w base 5 (.slice (some ⟨g, 0, none⟩) len cap) xs) :
    Own (w.setCell ⟨g, j, none⟩ (.int .u8 c)) base 5 (.slice (some ⟨g, 0, none⟩) len cap) (xs.set j c) ∧ w.cell? ⟨g, j, none⟩ = some (.int .u8 (xs.getD j 0)) ∧ w.frozen? ⟨g, j, none⟩ = false ∧ base ≤ g ∧ (w.setCell ⟨g, j, none⟩ (.int .u8 c)).heap.size = w.heap.size := by
  subst hl
  have hcell := World.ownsRow.cells h (g := g) rfl j (.int .u8 (xs.getD j 0)) (by simp [List.getD, hj])
  have hp : (⟨g, 0, none⟩ : Addr).add j = ⟨g, j, none⟩ := by unfold Addr.add; split <;> simp_all
  rw [hp] at hcell
  rcases h.2 with ⟨hn, _⟩ | ⟨g', cap', cur, hv, hbg, hg, hnc, hcm, hcs, htake⟩
  · cases hn
  · simp only [Value.slice.injEq, Option.some.injEq, Addr.mk.injEq, and_true, true_and] at hv
    obtain ⟨rfl, rfl⟩ := hv
    have hset : (w.setCell ⟨g, j, none⟩ (.int .u8 c)).heap[g]? = some (.cells (cur.setIfInBounds j (.int .u8 c)) 5 (0, 0)) := by
      rw [setCell_eq_setRow w g j cur 5 (0, 0) _ hg]
      exact setRow_heap w g _ _ 5 _ hg
    refine ⟨⟨by simp, .inr ⟨g, cap, _, by simp, hbg, hset, by simpa using hnc, hcm, by simpa using hcs, ?_⟩⟩, hcell, by simp [World.frozen?, hg], hbg, by simp⟩
    simp only [List.length_set, Array.toList_setIfInBounds, Nat.mul_one] at htake ⊢
    rw [List.take_set, htake, List.map_set]

theorem own_cat {w : World} {base : Nat} {v : Value} {xs ys : List Int} {m : Nat} (hm : m = ys.length) (h : w.ownsRow base 5 1 v (xs.length + m) (xs.map (Value.int .u8) ++ ys.map (Value.int .u8))) : Own w base 5 v (xs ++ ys) := by
  subst hm
  unfold Own
  rw [List.length_append, List.map_append]
  exact h

set_option maxHeartbeats 400000 in
theorem addTwo_any (base : Nat) (v : Value) (xs : List Int) (n : Int) (w : World) (hown : Own w base 5 v xs) (hl : xs.length + 2 ≤ 1000000) (hbase : base ≤ w.heap.size) :
    Calls Try.prog 14 #[v, .int .u16 n] w fun e w' => ∃ v', e = .returned v' ∧ Own w' base 5 v' (xs ++ tw n) ∧ Below base w w' := by
  obtain ⟨i0, hi, hz0, hz1, hz2⟩ := info_parts Try.info5
  have hoa := hown.alloc (.cells #[.int .u8 (IntKind.u8.wrap (n / 256)), .int .u8 (IntKind.u8.wrap n)] 5)
  have hsrc : Src Try.prog 1 22 (.slice (some ⟨w.heap.size, 0, none⟩) 2 2) 2 [.int .u8 (IntKind.u8.wrap (n / 256)), .int .u8 (IntKind.u8.wrap n)] (w.alloc (.cells #[.int .u8 (IntKind.u8.wrap (n / 256)), .int .u8 (IntKind.u8.wrap n)] 5)) :=
    (rd_lit w (tw n) (by simp [tw, maxLen])).src Try.underlying22
  go_enter Try.func14, Try.ntmps14
  go_wp2_with (first
    | (at_builtin; refine wpList_append_both _ rfl (.tmp 5) (.tmp 11) 22 22 rfl base 5 i0 (.int .u8 0) 1 1 Try.underlying22 hi hz0 hz1 hz2 rfl v xs.length _ rfl hoa _ 2 _ rfl hsrc 2 (.inr (by omega)) (Nat.le_refl _) (by unfold maxLen; omega) (by simp; omega) ?_))
  intro v1 w1 hown1 hgrow1 _
  go_wp2
  go_ret
  exact ⟨v1, rfl, own_cat (ys := tw n) rfl hown1, ((Below.refl base w).alloc hbase _).grown hgrow1 (by simp; omega) (fun k hk => (hown.lt k hk).1)⟩

theorem refTwo_any (n : Int) (w : World) :
    Calls Try.prog 15 #[.int .u16 n] w fun e w' => ∃ v', e = .returned v' ∧ Own w' w.heap.size 5 v' (tw n) ∧ Below w.heap.size w w' := by
  have ho : Own (w.alloc (.cells #[.int .u8 (IntKind.u8.wrap (n / 256)), .int .u8 (IntKind.u8.wrap n)] 5)) w.heap.size 5 (.slice (some ⟨w.heap.size, 0, none⟩) 2 2) (tw n) :=
    World.ownsRow_lit (base := w.heap.size) (e := 5) (size := 1) w ((tw n).map (Value.int .u8)).toArray 2 (Nat.le_refl _) (by simp [maxLen]) (by simp [tw])
  go_enter Try.func15, Try.ntmps15
  go_wp2
  go_ret
  exact ⟨_, rfl, ho, (Below.refl _ _).alloc (Nat.le_refl _) _⟩

set_option maxHeartbeats 1000000 in
theorem seal_any (v : Value) (xs : List Int) (w : World) (hr : Rd w v xs) :
    Calls Try.prog 9 #[v] w fun e w' => ∃ u, e = .returned (.tuple #[u, .int .i64 (sealS xs).2]) ∧ Own w' w.heap.size 5 u (sealS xs).1 ∧ Below w.heap.size w w' := by
  obtain ⟨i0, hi, hz0, hz1, hz2⟩ := info_parts Try.info5
  obtain ⟨a, cap, rfl, hc, hm, hnone, hcell⟩ := id hr
  clear hcell hnone
  by_cases h0 : xs.length = 0
  · have h0' : ((xs.length : Int) == 0) = true := by simp [h0]
    rw [sealS_arg h0]
    go_enter Try.func9, Try.ntmps9
    go_wp2
    go_ret2
    exact ⟨_, rfl, own_none _ _, Below.refl _ _⟩
  · have h0' : ((xs.length : Int) == 0) = false := beq_eq_false_iff_ne.2 (by omega)
    by_cases h1 : 14000 < xs.length
    · have h1' : (xs.length : Int) > 14000 := by omega
      rw [sealS_long h1]
      go_enter Try.func9, Try.ntmps9
      go_wp2
      go_ret2
      exact ⟨_, rfl, own_none _ _, Below.refl _ _⟩
    · have h1' : ¬ (xs.length : Int) > 14000 := by omega
      have hw : IntKind.u16.wrap (xs.length : Int) = xs.length := by rw [IntKind.wrap_u16]; omega
      rw [sealS_ok h0 h1]
      go_enter Try.func9, Try.ntmps9
      go_wp2_with (first
        | (at_make; refine wpList_make_own _ rfl (.const (.int .i64 0)) (.tmp 14) 22 rfl w.heap.size 5 i0 (.int .u8 0) 1 Try.underlying22 hi hz0 hz1 .i64 .i64 _ (xs.length + 6) rfl rfl ?c1 ?c2 ?c3 ?c4 ?_))
      case c1 => omega
      case c2 => omega
      case c3 => unfold maxLen; omega
      intro w1 ho1 hg1
      have b1 : Below w.heap.size w w1 := (Below.refl _ _).grown hg1 (Nat.le_refl _) (fun k hk => by cases hk)
      clear hg1
      have ho1' : Own w1 w.heap.size 5 _ [] := ho1
      go_wp2_with (first
        | (go_at_call 14; refine (addTwo_any w.heap.size _ [] (xs.length : Int) _ ho1' (by simp) b1.size).mono ?_; rintro e w2 ⟨v2, rfl, ho2, hb2⟩; rw [List.nil_append] at ho2; have b2 := b1.trans hb2; have h7 := sum_any _ _ _ ho2.rd; clear ho1' ho1 hb2 b1)
        | (go_at_call 7; refine h7.mono ?_; rintro e w' ⟨rfl, rfl⟩; clear h7)
        | (go_at_call 14; refine (addTwo_any w.heap.size _ _ _ _ ho2 (by simp [tw_length]) b2.size).mono ?_; rintro e w3 ⟨v3, rfl, ho3, hb3⟩; have ho3' : Own w3 w.heap.size 5 v3 (hd xs.length) := ho3; have b3 := b2.trans hb3; have r3 := hr.below b3 (Nat.le_refl _); clear ho2 ho3 hb3 b2)
        | (at_builtin; refine wpList_append_both _ rfl (.tmp 25) (.tmp 26) 22 22 rfl w.heap.size 5 i0 (.int .u8 0) 1 1 Try.underlying22 hi hz0 hz1 hz2 rfl v3 4 _ rfl ho3' _ xs.length _ rfl (r3.src Try.underlying22) xs.length (.inr (by omega)) (Nat.le_refl _) (by unfold maxLen; omega) b3.size ?_; intro v4 w4 ho4' hg4 _; have ho4 : Own w4 w.heap.size 5 v4 (hd xs.length ++ xs) := own_cat rfl ho4'; have b4 := b3.grown hg4 b3.size (fun k hk => (World.ownsRow.lt ho3' k hk).1); have h7 := sum_any _ _ _ ho4.rd; clear ho3' ho4' hg4 b3 r3)
        | (go_at_call 14; refine (addTwo_any w.heap.size _ _ _ _ ho4 (by simp [hd_length]; omega) b4.size).mono ?_; rintro e w5 ⟨v5, rfl, ho5, hb5⟩; have b5 := b4.trans hb5))
      go_ret2
      exact ⟨_, rfl, ho5, b5⟩

set_option maxHeartbeats 1000000 in
theorem refSeal_any (v : Value) (xs : List Int) (w : World) (hr : Rd w v xs) :
    Calls Try.prog 10 #[v] w fun e w' => ∃ u, e = .returned (.tuple #[u, .int .i64 (sealS xs).2]) ∧ Own w' w.heap.size 5 u (sealS xs).1 ∧ Below w.heap.size w w' := by
  obtain ⟨i0, hi, hz0, hz1, hz2⟩ := info_parts Try.info5
  obtain ⟨a, cap, rfl, hc, hm, hnone, hcell⟩ := id hr
  clear hcell hnone
  by_cases h0 : xs.length = 0
  · have h0' : ((xs.length : Int) == 0) = true := by simp [h0]
    rw [sealS_arg h0]
    go_enter Try.func10, Try.ntmps10
    go_wp2
    go_ret2
    exact ⟨_, rfl, own_none _ _, Below.refl _ _⟩
  · have h0' : ((xs.length : Int) == 0) = false := beq_eq_false_iff_ne.2 (by omega)
    by_cases h1 : 14000 < xs.length
    · have h1' : (xs.length : Int) > 14000 := by omega
      rw [sealS_long h1]
      go_enter Try.func10, Try.ntmps10
      go_wp2
      go_ret2
      exact ⟨_, rfl, own_none _ _, Below.refl _ _⟩
    · have h1' : ¬ (xs.length : Int) > 14000 := by omega
      have hw : IntKind.u16.wrap (xs.length : Int) = xs.length := by rw [IntKind.wrap_u16]; omega
      rw [sealS_ok h0 h1]
      go_enter Try.func10, Try.ntmps10
      go_wp2_with (first
        | (go_at_call 15; refine (refTwo_any (xs.length : Int) w).mono ?_; rintro e w1 ⟨v1, rfl, ho1, b1⟩; have h8 := refSum_any _ _ _ ho1.rd)
        | (go_at_call 8; refine h8.mono ?_; rintro e w' ⟨rfl, rfl⟩; clear h8)
        | (go_at_call 15; refine (refTwo_any _ w1).mono ?_; rintro e w2 ⟨v2, rfl, ho2, hb2⟩; have o2 := ho1.below hb2 (Nat.le_refl _); have b2 := b1.trans (hb2.mono b1.size); have r2 := ho2.rd; clear ho1 b1 hb2 ho2)
        | (at_builtin; refine wpList_append_both _ rfl (.tmp 15) (.tmp 18) 22 22 rfl w.heap.size 5 i0 (.int .u8 0) 1 1 Try.underlying22 hi hz0 hz1 hz2 rfl v1 2 _ rfl o2 _ 2 _ rfl (r2.src Try.underlying22) 2 (.inr (by omega)) (Nat.le_refl _) (by unfold maxLen; omega) b2.size ?_; intro v3 w3 ho3' hg3 _; have ho3 : Own w3 w.heap.size 5 v3 (hd xs.length) := own_cat rfl ho3'; have b3 := b2.grown hg3 b2.size (fun k hk => (World.ownsRow.lt o2 k hk).1); have r3 := hr.below b3 (Nat.le_refl _); clear o2 r2 ho3' hg3 b2)
        | (at_builtin; refine wpList_append_both _ rfl (.tmp 20) (.tmp 21) 22 22 rfl w.heap.size 5 i0 (.int .u8 0) 1 1 Try.underlying22 hi hz0 hz1 hz2 rfl v3 4 _ rfl ho3 _ xs.length _ rfl (r3.src Try.underlying22) xs.length (.inr (by omega)) (Nat.le_refl _) (by unfold maxLen; omega) b3.size ?_; intro v4 w4 ho4' hg4 _; have ho4 : Own w4 w.heap.size 5 v4 (hd xs.length ++ xs) := own_cat rfl ho4'; have b4 := b3.grown hg4 b3.size (fun k hk => (World.ownsRow.lt ho3 k hk).1); have h8 := refSum_any _ _ _ ho4.rd; clear ho3 ho4' hg4 b3 r3)
        | (go_at_call 15; refine (refTwo_any _ w4).mono ?_; rintro e w5 ⟨v5, rfl, ho5, hb5⟩; have o5 := ho4.below hb5 (Nat.le_refl _); have b5 := b4.trans (hb5.mono b4.size); have r5 := ho5.rd; clear ho4 b4 hb5 ho5)
        | (at_builtin; refine wpList_append_both _ rfl (.tmp 23) (.tmp 26) 22 22 rfl w.heap.size 5 i0 (.int .u8 0) 1 1 Try.underlying22 hi hz0 hz1 hz2 rfl v4 (hd xs.length ++ xs).length _ rfl o5 _ 2 _ rfl (r5.src Try.underlying22) 2 (.inr (by simp [hd_length]; omega)) (Nat.le_refl _) (by simp [hd_length]; unfold maxLen; omega) b5.size ?_; intro v6 w6 ho6' hg6 _; have ho6 : Own w6 w.heap.size 5 v6 (rcd xs) := own_cat rfl ho6'; have b6 := b5.grown hg6 b5.size (fun k hk => (World.ownsRow.lt o5 k hk).1)))
      go_ret2
      exact ⟨_, rfl, ho6, b6⟩
end Go.Proofs.Ytlkhakcphdemjaa
