import Derived.Test.YtgpgbingmeehdaaXlc02

/- The program's links: Count, find. -/
namespace Go.Proofs.Ytgpgbingmeehdaa
open Go.RowKit Go.Lib Go.Maps
set_option linter.unusedSimpArgs false
set_option linter.unusedVariables false
attribute [local go_sem ↓] Go.wp_at_zero Go.wp_at_succ

theorem own3_on {α : Type} {w w' : World} {e : Nat} {v : Value} {E : List (L3 α)} (h : w.ownsRow 0 e 3 v E.length (cel3 E)) (hb : Below w.heap.size w w') : w'.ownsRow 0 e 3 v E.length (cel3 E) := ownsRow_keep h (fun g hg => hb.block g (ownsRow_lt h g hg).2)
theorem drop_el {α : Type} {E : List (L3 α)} {j : Nat} (h : j < E.length) : ∃ x, E[j]? = some x ∧ (E.map el).drop j = el x :: (E.map el).drop (j + 1) := by
  refine ⟨E[j], List.getElem?_eq_getElem h, ?_⟩
  rw [List.drop_eq_getElem_cons (by simpa using h), List.getElem_map]
theorem sel_el (f t x1 x2 : Int) (v : Value) (b : List Int) (r : List (Int × Int × List Int)) : sel f t (el (x1, x2, v, b) :: r) = if x1 = f ∧ x2 = t then b :: sel f t r else sel f t r := rfl
theorem fd_el (f t c x1 x2 : Int) (p n : Nat) (v : Value) (b : List Int) (r : List (Int × Int × List Int)) : fd f t c p n (el (x1, x2, v, b) :: r) = if x1 = f ∧ x2 = t then (if (n : Int) = c then some p else fd f t c (p + 1) (n + 1) r) else fd f t c (p + 1) n r := rfl
set_option maxRecDepth 100000 in
set_option maxHeartbeats 1000000 in
theorem lCount_any {w : World} {X : Nat} {F : Nat → Prop} {N : Int} {L : List (Int × Int × List Int)} (h : PLM w X F N L) (hl : L.length ≤ 1000) (f t : Int) :
    Calls Try.prog 23 #[.pointer (some ⟨X, 0, none⟩), .int .i64 f, .int .i64 t] w fun e w' => e = .returned (.int .i64 ((sel f t L).length : Int)) ∧ Below w.heap.size w w' := by
  obtain ⟨E, v, h, rfl⟩ := h
  rw [List.length_map] at hl
  obtain ⟨c1, f1⟩ := h.c 1 _ rfl
  obtain ⟨a, cap, hv, _, _⟩ := own3_form h.o
  have HO := hideL h.o
  have HX := hideL (show ∀ x ∈ E, ∃ a n c, x.2.2.1 = .slice a n c from fun x hx => by obtain ⟨a, c, e, _⟩ := (h.s x hx).r; exact ⟨a, _, c, e⟩)
  clear h
  subst hv
  obtain ⟨R, hR⟩ : ∃ R, (sel f t (E.map el)).length = R := ⟨_, rfl⟩
  have hRl : R ≤ E.length := by rw [← hR]; simpa using sel_len f t (E.map el)
  rw [hR]
  have H0 := hideL (show 0 + (sel f t ((E.map el).drop 0)).length = R by rw [List.drop_zero, Nat.zero_add]; exact hR)
  clear hR
  go_enter Try.func23, Try.ntmps23
  go_wp2
  go_loopw [7, 17] (fun n i wr => ∃ (j k : Nat), j ≤ E.length ∧ i = .int .i64 (j : Int) ∧ n = .int .i64 (k : Int) ∧ k ≤ R ∧ Hid (k + (sel f t ((E.map el).drop j)).length = R) ∧ Below w.heap.size w wr) (fun _ i _ => E.length - (RowKit.intOf i).toNat)
  case atStart => exact ⟨0, 0, Nat.zero_le _, rfl, rfl, Nat.zero_le _, H0, Below.refl _ _⟩
  case round =>
    obtain ⟨j, k, hj, rfl, rfl, hk, HS, hb⟩ := hrel
    by_cases hlt : j < E.length
    · obtain ⟨g, C, e, _, _, hg, hc, _⟩ := own3_at (own3_on HO.out hb) (by omega)
      simp only [Value.slice.injEq, true_and] at e
      obtain ⟨rfl, rfl⟩ := e
      obtain ⟨x, hx, hd⟩ := drop_el hlt
      obtain ⟨d0, d1, d2⟩ := hc j x hx
      obtain ⟨xa, xn, xc, hxv⟩ := HX.out x (List.mem_of_getElem? hx)
      have hs := HS.out
      rw [hd] at hs
      have k1 : (j : Int) < (E.length : Int) := by omega
      have k2 : (0 : Int) ≤ (j : Int) := by omega
      have hbs := hb.size
      have HB := hideL hb
      obtain ⟨x1, x2, xv, xb⟩ := x
      rw [sel_el] at hs
      simp only at d0 d1 d2 hxv
      subst hxv
      clear hc hx hd HS H0 hb
      by_cases h1 : x1 = f
      · by_cases h2 : x2 = t
        · rw [if_pos ⟨h1, h2⟩, List.length_cons] at hs
          have HS := hideL (show (k + 1) + (sel f t ((E.map el).drop (j + 1))).length = R by omega)
          have hkR : k + 1 ≤ R := by omega
          clear hs
          go_wp2
          go_roundw
          case rel => exact ⟨j + 1, k + 1, hlt, by go_num, by go_num, hkR, HS, HB.out.alloc hbs _⟩
          case measure => simp [RowKit.intOf]; omega
        · rw [if_neg (fun e => h2 e.2)] at hs
          have HS := hideL hs
          clear hs
          go_wp2
          go_roundw
          case rel => exact ⟨j + 1, k, hlt, by go_num, rfl, hk, HS, HB.out.alloc hbs _⟩
          case measure => simp [RowKit.intOf]; omega
      · rw [if_neg (fun e => h1 e.1)] at hs
        have HS := hideL hs
        clear hs
        go_wp2
        go_roundw
        case rel => exact ⟨j + 1, k, hlt, by go_num, rfl, hk, HS, HB.out.alloc hbs _⟩
        case measure => simp [RowKit.intOf]; omega
    · have k1 : ¬ (j : Int) < (E.length : Int) := by omega
      have hs := HS.out
      rw [List.drop_eq_nil_of_le (by simpa using Nat.le_of_not_lt hlt)] at hs
      have hs' : k + 0 = R := hs
      rw [Nat.add_zero] at hs'
      subst hs'
      clear HS H0 hs HO HX
      go_wp2
      go_ret
      exact ⟨rfl, hb⟩
set_option maxRecDepth 100000 in
set_option maxHeartbeats 1000000 in
theorem lFind_any {w : World} {X : Nat} {F : Nat → Prop} {N : Int} {L : List (Int × Int × List Int)} (h : PLM w X F N L) (hl : L.length ≤ 1000) (f t c : Int) :
    Calls Try.prog 28 #[.pointer (some ⟨X, 0, none⟩), .int .i64 f, .int .i64 t, .int .i64 c] w fun e w' => e = .returned (.tuple #[.int .i64 (((fd f t c 0 0 L).getD 0 : Nat) : Int), .bool (fd f t c 0 0 L).isSome]) ∧ Below w.heap.size w w' := by
  obtain ⟨E, v, h, rfl⟩ := h
  rw [List.length_map] at hl
  obtain ⟨c1, f1⟩ := h.c 1 _ rfl
  obtain ⟨a, cap, hv, _, _⟩ := own3_form h.o
  have HO := hideL h.o
  have HX := hideL (show ∀ x ∈ E, ∃ a n c, x.2.2.1 = .slice a n c from fun x hx => by obtain ⟨a, c, e, _⟩ := (h.s x hx).r; exact ⟨a, _, c, e⟩)
  clear h
  subst hv
  obtain ⟨R, hR⟩ : ∃ R, fd f t c 0 0 (E.map el) = R := ⟨_, rfl⟩
  rw [hR]
  have H0 := hideL (show fd f t c 0 0 ((E.map el).drop 0) = R by rw [List.drop_zero]; exact hR)
  clear hR
  go_enter Try.func28, Try.ntmps28
  go_wp2
  go_loopw [10, 20] (fun n i wr => ∃ (j k : Nat), j ≤ E.length ∧ i = .int .i64 (j : Int) ∧ n = .int .i64 (k : Int) ∧ k ≤ j ∧ Hid (fd f t c j k ((E.map el).drop j) = R) ∧ Below w.heap.size w wr) (fun _ i _ => E.length - (RowKit.intOf i).toNat)
  case atStart => exact ⟨0, 0, Nat.zero_le _, rfl, rfl, Nat.zero_le _, H0, Below.refl _ _⟩
  case round =>
    obtain ⟨j, k, hj, rfl, rfl, hk, HS, hb⟩ := hrel
    by_cases hlt : j < E.length
    · obtain ⟨g, C, e, _, _, hg, hc, _⟩ := own3_at (own3_on HO.out hb) (by omega)
      simp only [Value.slice.injEq, true_and] at e
      obtain ⟨rfl, rfl⟩ := e
      obtain ⟨x, hx, hd⟩ := drop_el hlt
      obtain ⟨d0, d1, d2⟩ := hc j x hx
      obtain ⟨xa, xn, xc, hxv⟩ := HX.out x (List.mem_of_getElem? hx)
      have hs := HS.out
      rw [hd] at hs
      have k1 : (j : Int) < (E.length : Int) := by omega
      have k2 : (0 : Int) ≤ (j : Int) := by omega
      have hbs := hb.size
      have HB := hideL hb
      obtain ⟨x1, x2, xv, xb⟩ := x
      rw [fd_el] at hs
      simp only at d0 d1 d2 hxv
      subst hxv
      clear hc hx hd HS H0 hb
      by_cases h1 : x1 = f
      · by_cases h2 : x2 = t
        · rw [if_pos ⟨h1, h2⟩] at hs
          by_cases h3 : (k : Int) = c
          · rw [if_pos h3] at hs
            subst hs
            go_wp2
            go_ret2
            exact ⟨rfl, HB.out.alloc hbs _⟩
          · rw [if_neg h3] at hs
            have HS := hideL hs
            clear hs
            go_wp2
            go_roundw
            case rel => exact ⟨j + 1, k + 1, hlt, by go_num, by go_num, by omega, HS, HB.out.alloc hbs _⟩
            case measure => simp [RowKit.intOf]; omega
        · rw [if_neg (fun e => h2 e.2)] at hs
          have HS := hideL hs
          clear hs
          go_wp2
          go_roundw
          case rel => exact ⟨j + 1, k, hlt, by go_num, rfl, by omega, HS, HB.out.alloc hbs _⟩
          case measure => simp [RowKit.intOf]; omega
      · rw [if_neg (fun e => h1 e.1)] at hs
        have HS := hideL hs
        clear hs
        go_wp2
        go_roundw
        case rel => exact ⟨j + 1, k, hlt, by go_num, rfl, by omega, HS, HB.out.alloc hbs _⟩
        case measure => simp [RowKit.intOf]; omega
    · have k1 : ¬ (j : Int) < (E.length : Int) := by omega
      have hs := HS.out
      rw [List.drop_eq_nil_of_le (by simpa using Nat.le_of_not_lt hlt)] at hs
      have hs' : none = R := hs
      subst hs'
      clear HS H0 hs HO HX
      go_wp2
      go_ret2
      exact ⟨rfl, hb⟩
end Go.Proofs.Ytgpgbingmeehdaa
