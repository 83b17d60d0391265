/- What the document's within, truth, eval and Eval do. -/
import Derived.Test.YtjbfhpgiobddoaaDoorExV
import Derived.Test.YtjbfhpgiobddoaaDoorExG
import Derived.BigQuiet
import Derived.Deep.QuietTactic
namespace Go.Proofs.YtjbfhpgiobddoaaDoor
open Go.RowKit Go.Lib
set_option linter.unusedSimpArgs false
set_option linter.unusedVariables false

theorem ret_pair {a b c d : Int} (h1 : a = c) (h2 : b = d) : Ending.returned (.tuple #[.int .i64 a, .int .i64 b]) = .returned (.tuple #[.int .i64 c, .int .i64 d]) := by rw [h1, h2]
abbrev pr (x : Int × Int) : Value := .tuple #[.int .i64 x.1, .int .i64 x.2]
theorem within_any (n : Int) (w : World) : Calls Tryd.prog 37 #[.int .i64 n] w fun e w' => e = .returned (pr (wth n)) ∧ w = w' := by
  unfold wth
  by_cases h1 : n < -1000000000
  · rw [if_pos (.inl h1)]
    go_enter Tryd.func37, Tryd.ntmps37
    go_wp2
    go_ret2
    exact ⟨rfl, rfl⟩
  by_cases h2 : n > 1000000000
  · rw [if_pos (.inr h2)]
    go_enter Tryd.func37, Tryd.ntmps37
    go_wp2
    go_ret2
    exact ⟨rfl, rfl⟩
  rw [if_neg (by omega)]
  go_enter Tryd.func37, Tryd.ntmps37
  go_wp2
  go_ret2
  exact ⟨rfl, rfl⟩
theorem truth_any (b : Bool) (w : World) : Calls Tryd.prog 38 #[.bool b] w fun e w' => e = .returned (.int .i64 (tru b)) ∧ w = w' := by
  cases b
  all_goals go_enter Tryd.func38, Tryd.ntmps38
  all_goals go_wp2
  all_goals go_ret
  all_goals exact ⟨rfl, rfl⟩
theorem mul_bd {x y : Int} (hx : -1000000000 ≤ x ∧ x ≤ 1000000000) (hy : -1000000000 ≤ y ∧ y ≤ 1000000000) : -1000000000000000000 ≤ x * y ∧ x * y ≤ 1000000000000000000 := by
  have h1 : x.natAbs ≤ 1000000000 := by omega
  have h2 : y.natAbs ≤ 1000000000 := by omega
  have h3 := Nat.mul_le_mul h1 h2
  rw [← Int.natAbs_mul] at h3
  omega
theorem opr_is {s : ByteArray} (h : opr s = true) : s = ⟨#[43]⟩ ∨ s = ⟨#[45]⟩ ∨ s = ⟨#[42]⟩ ∨ s = ⟨#[60]⟩ ∨ s = ⟨#[60, 61]⟩ ∨ s = ⟨#[61, 61]⟩ ∨ s = ⟨#[33, 61]⟩ ∨ s = ⟨#[38, 38]⟩ ∨ s = ⟨#[124, 124]⟩ := by
  have hb : ∀ x : List UInt8, bl s = x → s = ⟨x.toArray⟩ := fun x hx => by
    apply ByteArray.ext
    show s.data = x.toArray
    rw [← hx]
  unfold opr ops9 at h
  simp only [List.any_cons, List.any_nil, Bool.or_false, Bool.or_eq_true, beq_iff_eq] at h
  rcases h with h | h | h | h | h | h | h | h | h
  · exact .inl (hb _ h)
  · exact .inr (.inl (hb _ h))
  · exact .inr (.inr (.inl (hb _ h)))
  · exact .inr (.inr (.inr (.inl (hb _ h))))
  · exact .inr (.inr (.inr (.inr (.inl (hb _ h)))))
  · exact .inr (.inr (.inr (.inr (.inr (.inl (hb _ h))))))
  · exact .inr (.inr (.inr (.inr (.inr (.inr (.inl (hb _ h)))))))
  · exact .inr (.inr (.inr (.inr (.inr (.inr (.inr (.inl (hb _ h))))))))
  · exact .inr (.inr (.inr (.inr (.inr (.inr (.inr (.inr (hb _ h))))))))

def EvalC (d : Nat) : Prop := ∀ (vs : List Vr) (ok : Nat → Prop) (t : T d) (v vv : Value) (w : World), Cl d t → sdC d t = true → RdT ok w d t v → RdV w vv vs → vs.length ≤ 1000 →
  Calls Tryd.prog 26 #[v, vv] w fun e w' => e = .returned (pr (evC vs d t)) ∧ Below w.heap.size w w'

theorem eval_ref (vs : List Vr) (n : Int) (s : ByteArray) (sl vv : Value) (w : World) (hv : RdV w vv vs) (hl : vs.length ≤ 1000) :
    Calls Tryd.prog 26 #[.agg #[.int .i64 2, .int .i64 n, .string s, sl], vv] w fun e w' => e = .returned (pr (look vs s)) ∧ Below w.heap.size w w' := by
  obtain ⟨a, cap, rfl, hlc, hcm, hcell⟩ := hv.form
  obtain ⟨V, hV⟩ : ∃ V, look vs s = V := ⟨_, rfl⟩
  rw [hV]
  have HV : Hid (look (vs.drop 0) s = V) := hV
  have HC : Hid (∀ (i : Nat) (hi : i < vs.length), ∃ b off, a = some ⟨b, off, none⟩ ∧ b < w.heap.size ∧ w.cell? ⟨b, off + i * 2, none⟩ = some (.string (vs[i]).1) ∧ w.cell? ⟨b, off + i * 2 + 1, none⟩ = some (.int .i64 (vs[i]).2)) := hcell
  have hWi := fun n w1 => within_any n w1
  clear hcell hv hV
  go_enter Tryd.func26, Tryd.ntmps26
  go_wp2
  go_loopw [20] (fun i wr => ∃ (j : Nat), j ≤ vs.length ∧ i = .int .i64 (j : Int) ∧ Hid (look (vs.drop j) s = V) ∧ At4 wr w.heap.size (.int .i64 2) (.int .i64 n) (.string s) sl ∧ Below w.heap.size w wr) (fun i _ => vs.length - (RowKit.intOf i).toNat)
  case atStart => exact ⟨0, Nat.zero_le _, rfl, HV, At4.new _ _ _ _ _ _, (Below.refl _ _).alloc (Nat.le_refl _) _⟩
  case round =>
    obtain ⟨j, hj, rfl, hlk, hA, hb⟩ := hrel
    obtain ⟨y0, y1, y2, y3⟩ := id hA
    by_cases hlt : j < vs.length
    · obtain ⟨b, off, rfl, hbl, k0, k1⟩ := HC.out j hlt
      have C0 := (hb.cell (p := ⟨b, off + j * 2, none⟩) hbl).trans k0
      have C1 := (hb.cell (p := ⟨b, off + j * 2 + 1, none⟩) hbl).trans k1
      have hll := hlk.out
      rw [List.drop_eq_getElem_cons hlt] at hll
      have i1 : (j : Int) < (vs.length : Int) := by omega
      have i2 : (0 : Int) ≤ (j : Int) := by omega
      obtain ⟨xs, hxs⟩ : ∃ x, (vs[j]).1 = x := ⟨_, rfl⟩
      obtain ⟨xn, hxn⟩ : ∃ x, (vs[j]).2 = x := ⟨_, rfl⟩
      unfold look at hll
      rw [hxs, hxn] at hll
      rw [hxs] at C0
      rw [hxn] at C1
      clear k0 k1 hxs hxn
      by_cases he : xs = s
      · subst he
        rw [if_pos rfl] at hll
        subst hll
        go_wp2
        go_quiet (fail)
        go_wp2_with (first
          | (go_at_call 37; refine (hWi _ _).mono ?_; rintro e w' ⟨rfl, rfl⟩))
        go_ret2
        exact ⟨rfl, hb.trans ⟨rfl, rfl, rfl, Nat.le_refl _, fun _ _ => rfl⟩⟩
      · rw [if_neg he] at hll
        have hN : Hid (look (vs.drop (j + 1)) s = V) := hll
        have hs : (xs.toList == s.toList) = false := by
          rw [ByteArray.toList_eq, ByteArray.toList_eq]
          exact beq_eq_false_iff_ne.2 (fun e => he (ByteArray.ext (Array.toList_inj.1 e)))
        clear hll he
        go_wp2
        go_quiet (fail)
        go_wp2
        go_roundw
        case rel => exact ⟨j + 1, hlt, by go_num, hN, hA.keepB (B := w.heap.size + 1) ⟨rfl, rfl, rfl, Nat.le_refl _, fun _ _ => rfl⟩ (by omega), hb.trans ⟨rfl, rfl, rfl, Nat.le_refl _, fun _ _ => rfl⟩⟩
        case measure => simp [RowKit.intOf]; omega
    · have i1 : ¬ (j : Int) < (vs.length : Int) := by omega
      have hll := hlk.out
      rw [List.drop_eq_nil_of_le (by omega)] at hll
      subst hll
      go_wp2
      go_ret2
      exact ⟨rfl, hb⟩
set_option maxRecDepth 100000 in
set_option maxHeartbeats 8000000 in
theorem eval_step (d : Nat) (IH : EvalC d) : EvalC (d + 1) := by
  intro vs ok t v vv w hc hs h hv hl
  have hTr := fun b w1 => truth_any b w1
  have hWi := fun n w1 => within_any n w1
  rcases hc.cases with ⟨n, rfl⟩ | ⟨s, rfl⟩ | ⟨k, p, hk, rfl, hp⟩ | ⟨s, p, q, rfl, hp, hq⟩ | rfl
  · obtain ⟨sl, rfl, _⟩ := rdT_mk.1 h
    rw [evC_1]
    clear h hv hc hs
    go_enter Tryd.func26, Tryd.ntmps26
    go_wp2
    go_ret2
    exact ⟨rfl, (Below.refl _ _).alloc (Nat.le_refl _) _⟩
  · obtain ⟨sl, rfl, _⟩ := rdT_mk.1 h
    rw [evC_2]
    exact eval_ref vs 0 s sl vv w hv hl
  · obtain ⟨sl, rfl, hpp⟩ := rdT_mk.1 h
    obtain ⟨a, cap, rfl, hlc, hcm, hcell⟩ := hpp.form
    obtain ⟨b', off, c0, c1, c2, c3, rfl, hbl', hr, q0, q1, q2, q3⟩ := hcell 0 (by simp)
    simp only [Nat.zero_mul, Nat.add_zero] at q0 q1 q2 q3
    have hsp : sdC d p = true := by
      rw [sdC_mk, if_neg (by omega), if_neg (by omega), if_pos hk] at hs
      simpa using hs
    have hb0 := (Below.refl w.heap.size w).alloc (Nat.le_refl _) (.cells #[.int .i64 k, .int .i64 0, .string ⟨#[]⟩, .slice (some ⟨b', off, none⟩) 1 cap] 24)
    have hA := At4.new w (.int .i64 k) (.int .i64 0) (.string ⟨#[]⟩) (.slice (some ⟨b', off, none⟩) 1 cap) 24
    have C0 := (hb0.cell (p := ⟨b', off, none⟩) hbl').trans q0
    have C1 := (hb0.cell (p := ⟨b', off + 1, none⟩) hbl').trans q1
    have C2 := (hb0.cell (p := ⟨b', off + 2, none⟩) hbl').trans q2
    have C3 := (hb0.cell (p := ⟨b', off + 3, none⟩) hbl').trans q3
    have hP := IH vs ok p _ vv _ hp hsp (RdT.below hb0 (Nat.le_refl _) hr) (hv.below hb0 (Nat.le_refl _)) hl
    have hpb := evC_bd vs d p hp hsp
    unfold pr at hP
    clear hcell hr q0 q1 q2 q3 hpp h hc hs hv hsp
    rcases hk with hk | hk
    · subst hk
      rw [evC_3]
      cases hpe : (evC vs d p).2 != 0 with
      | true =>
        have hne : (evC vs d p).2 ≠ 0 := by simpa using hpe
        rw [if_pos hne]
        obtain ⟨x, hx⟩ : ∃ x, (evC vs d p).1 = x := ⟨_, rfl⟩
        obtain ⟨xe, hxe⟩ : ∃ x, (evC vs d p).2 = x := ⟨_, rfl⟩
        rw [hx, hxe] at hP
        rw [hxe] at hpe ⊢
        clear hx hxe hne
        go_enter Tryd.func26, Tryd.ntmps26
        go_wp2_with (first
          | (go_at_call 26; refine hP.mono ?_; rintro e w1 ⟨rfl, b1⟩; have bb1 := hb0.trans (b1.mono hb0.size); have hA1 := hA.keepB b1 (by simp); obtain ⟨y0, y1, y2, y3⟩ := id hA1; clear hP C0 C1 C2 C3))
        go_ret2
        exact ⟨rfl, bb1⟩
      | false =>
        have hne : (evC vs d p).2 = 0 := by simpa using hpe
        rw [if_neg (by simp [hne])]
        rw [hne] at hP
        obtain ⟨x, hx⟩ : ∃ x, (evC vs d p).1 = x := ⟨_, rfl⟩
        rw [hx] at hP hpb ⊢
        clear hx hne hpe
        go_enter Tryd.func26, Tryd.ntmps26
        go_wp2_with (first
          | (go_at_call 26; refine hP.mono ?_; rintro e w1 ⟨rfl, b1⟩; have bb1 := hb0.trans (b1.mono hb0.size); have hA1 := hA.keepB b1 (by simp); obtain ⟨y0, y1, y2, y3⟩ := id hA1; clear hP C0 C1 C2 C3)
          | (go_at_call 38; refine (hTr _ _).mono ?_; rintro e w' ⟨rfl, rfl⟩))
        go_ret2
        exact ⟨rfl, bb1⟩
    · subst hk
      rw [evC_4]
      cases hpe : (evC vs d p).2 != 0 with
      | true =>
        have hne : (evC vs d p).2 ≠ 0 := by simpa using hpe
        rw [if_pos hne]
        obtain ⟨x, hx⟩ : ∃ x, (evC vs d p).1 = x := ⟨_, rfl⟩
        obtain ⟨xe, hxe⟩ : ∃ x, (evC vs d p).2 = x := ⟨_, rfl⟩
        rw [hx, hxe] at hP
        rw [hxe] at hpe ⊢
        clear hx hxe hne
        go_enter Tryd.func26, Tryd.ntmps26
        go_wp2_with (first
          | (go_at_call 26; refine hP.mono ?_; rintro e w1 ⟨rfl, b1⟩; have bb1 := hb0.trans (b1.mono hb0.size); have hA1 := hA.keepB b1 (by simp); obtain ⟨y0, y1, y2, y3⟩ := id hA1; clear hP C0 C1 C2 C3))
        go_ret2
        exact ⟨rfl, bb1⟩
      | false =>
        have hne : (evC vs d p).2 = 0 := by simpa using hpe
        rw [if_neg (by simp [hne])]
        rw [hne] at hP
        obtain ⟨x, hx⟩ : ∃ x, (evC vs d p).1 = x := ⟨_, rfl⟩
        rw [hx] at hP hpb ⊢
        clear hx hne hpe
        go_enter Tryd.func26, Tryd.ntmps26
        go_wp2_with (first
          | (go_at_call 26; refine hP.mono ?_; rintro e w1 ⟨rfl, b1⟩; have bb1 := hb0.trans (b1.mono hb0.size); have hA1 := hA.keepB b1 (by simp); obtain ⟨y0, y1, y2, y3⟩ := id hA1; clear hP C0 C1 C2 C3))
        go_ret2
        exact ⟨rfl, bb1⟩
  · obtain ⟨sl, rfl, hpp⟩ := rdT_mk.1 h
    obtain ⟨a, cap, rfl, hlc, hcm, hcell⟩ := hpp.form
    obtain ⟨b', off, c0, c1, c2, c3, rfl, hbl', hr, q0, q1, q2, q3⟩ := hcell 0 (by simp)
    obtain ⟨b2', off2, f0, f1, f2, f3, hbo, _, hr2, r0, r1, r2, r3⟩ := hcell 1 (by simp)
    simp only [Option.some.injEq, Addr.mk.injEq, and_true] at hbo
    obtain ⟨rfl, rfl⟩ := hbo
    simp only [Nat.zero_mul, Nat.add_zero] at q0 q1 q2 q3
    have hso : opr s = true ∧ sdC d p = true ∧ sdC d q = true := by
      rw [sdC_mk, if_neg (by omega), if_neg (by omega), if_neg (by omega), if_pos rfl] at hs
      simpa using hs
    have hb0 := (Below.refl w.heap.size w).alloc (Nat.le_refl _) (.cells #[.int .i64 5, .int .i64 0, .string s, .slice (some ⟨b', off, none⟩) 2 cap] 24)
    have hA := At4.new w (.int .i64 5) (.int .i64 0) (.string s) (.slice (some ⟨b', off, none⟩) 2 cap) 24
    have C0 := (hb0.cell (p := ⟨b', off, none⟩) hbl').trans q0
    have C1 := (hb0.cell (p := ⟨b', off + 1, none⟩) hbl').trans q1
    have C2 := (hb0.cell (p := ⟨b', off + 2, none⟩) hbl').trans q2
    have C3 := (hb0.cell (p := ⟨b', off + 3, none⟩) hbl').trans q3
    have hP := IH vs ok p _ vv _ hp hso.2.1 (RdT.below hb0 (Nat.le_refl _) hr) (hv.below hb0 (Nat.le_refl _)) hl
    have hQ := fun w1 (b1 : Below w.heap.size w w1) => IH vs ok q _ vv w1 hq hso.2.2 (RdT.below b1 (Nat.le_refl _) hr2) (hv.below b1 (Nat.le_refl _)) hl
    have hpb := evC_bd vs d p hp hso.2.1
    have hqb := evC_bd vs d q hq hso.2.2
    have hop := opr_is hso.1
    unfold pr at hP hQ
    rw [evC_5]
    obtain ⟨⟨x, xe⟩, hx⟩ : ∃ x, evC vs d p = x := ⟨_, rfl⟩
    obtain ⟨⟨y, ye⟩, hy⟩ : ∃ y, evC vs d q = y := ⟨_, rfl⟩
    rw [hx] at hP hpb ⊢
    simp only [hy] at hQ hqb ⊢
    simp only at hP hpb
    have hml := mul_bd hpb hqb
    clear hcell hr hr2 q0 q1 q2 q3 hpp h hc hs hv hso hx hy IH
    cases hpe : xe != 0 with
    | true =>
      rw [if_pos (by simpa using hpe)]
      clear hop hQ
      go_enter Tryd.func26, Tryd.ntmps26
      go_wp2_with (first
        | (go_at_call 26; refine hP.mono ?_; rintro e w1 ⟨rfl, b1⟩; have bb1 := hb0.trans (b1.mono hb0.size); have hA1 := hA.keepB b1 (by simp); obtain ⟨y0, y1, y2, y3⟩ := id hA1; clear hP C0 C1 C2 C3))
      go_ret2
      exact ⟨rfl, bb1⟩
    | false =>
      obtain rfl : xe = 0 := by simpa using hpe
      rw [if_neg (by simp)]
      clear hpe
      have hml2 : IntKind.i64.wrap (x * y) = x * y := by rw [IntKind.wrap_i64]; omega
      rcases hop with rfl | rfl | rfl | rfl | rfl | rfl | rfl | rfl | rfl
      · rw [if_neg (fun h => absurd h.1 (by decide)), if_neg (fun h => absurd h.1 (by decide))]
        cases hye : ye != 0 with
        | true =>
          rw [if_pos (by simpa using hye)]
          go_enter Tryd.func26, Tryd.ntmps26
          go_wp2_with (first
            | (go_at_call 26; refine hP.mono ?_; rintro e w1 ⟨rfl, b1⟩; have bb1 := hb0.trans (b1.mono hb0.size); have hA1 := hA.keepB b1 (by simp); obtain ⟨y0, y1, y2, y3⟩ := id hA1; have D0 := (bb1.cell (p := ⟨b', off + 4, none⟩) hbl').trans r0; have D1 := (bb1.cell (p := ⟨b', off + 5, none⟩) hbl').trans r1; have D2 := (bb1.cell (p := ⟨b', off + 6, none⟩) hbl').trans r2; have D3 := (bb1.cell (p := ⟨b', off + 7, none⟩) hbl').trans r3; have hQ' := hQ w1 bb1; clear hP hQ C0 C1 C2 C3)
            | (go_at_call 26; refine hQ'.mono ?_; rintro e w2 ⟨rfl, b2⟩; have bb2 := bb1.trans (b2.mono bb1.size); obtain ⟨z0, z1, z2, z3⟩ := hA1.keepB b2 (World.block_lt_of_cell? w1 _ y0); clear hQ' D0 D1 D2 D3 y0 y1 y2 y3))
          go_ret2
          exact ⟨rfl, bb2⟩
        | false =>
          obtain rfl : ye = 0 := by simpa using hye
          rw [if_neg (by simp)]
          clear hye
          show Calls Tryd.prog 26 _ w fun e w' => e = .returned (pr (wth (x + y))) ∧ _
          go_enter Tryd.func26, Tryd.ntmps26
          go_wp2_with (first
            | (go_at_call 26; refine hP.mono ?_; rintro e w1 ⟨rfl, b1⟩; have bb1 := hb0.trans (b1.mono hb0.size); have hA1 := hA.keepB b1 (by simp); obtain ⟨y0, y1, y2, y3⟩ := id hA1; have D0 := (bb1.cell (p := ⟨b', off + 4, none⟩) hbl').trans r0; have D1 := (bb1.cell (p := ⟨b', off + 5, none⟩) hbl').trans r1; have D2 := (bb1.cell (p := ⟨b', off + 6, none⟩) hbl').trans r2; have D3 := (bb1.cell (p := ⟨b', off + 7, none⟩) hbl').trans r3; have hQ' := hQ w1 bb1; clear hP hQ C0 C1 C2 C3)
            | (go_at_call 26; refine hQ'.mono ?_; rintro e w2 ⟨rfl, b2⟩; have bb2 := bb1.trans (b2.mono bb1.size); obtain ⟨z0, z1, z2, z3⟩ := hA1.keepB b2 (World.block_lt_of_cell? w1 _ y0); clear hQ' D0 D1 D2 D3 y0 y1 y2 y3)
            | (go_at_call 37; refine (hWi _ _).mono ?_; rintro e w' ⟨rfl, rfl⟩))
          go_ret2
          exact ⟨rfl, bb2⟩
      · rw [if_neg (fun h => absurd h.1 (by decide)), if_neg (fun h => absurd h.1 (by decide))]
        cases hye : ye != 0 with
        | true =>
          rw [if_pos (by simpa using hye)]
          go_enter Tryd.func26, Tryd.ntmps26
          go_wp2_with (first
            | (go_at_call 26; refine hP.mono ?_; rintro e w1 ⟨rfl, b1⟩; have bb1 := hb0.trans (b1.mono hb0.size); have hA1 := hA.keepB b1 (by simp); obtain ⟨y0, y1, y2, y3⟩ := id hA1; have D0 := (bb1.cell (p := ⟨b', off + 4, none⟩) hbl').trans r0; have D1 := (bb1.cell (p := ⟨b', off + 5, none⟩) hbl').trans r1; have D2 := (bb1.cell (p := ⟨b', off + 6, none⟩) hbl').trans r2; have D3 := (bb1.cell (p := ⟨b', off + 7, none⟩) hbl').trans r3; have hQ' := hQ w1 bb1; clear hP hQ C0 C1 C2 C3)
            | (go_at_call 26; refine hQ'.mono ?_; rintro e w2 ⟨rfl, b2⟩; have bb2 := bb1.trans (b2.mono bb1.size); obtain ⟨z0, z1, z2, z3⟩ := hA1.keepB b2 (World.block_lt_of_cell? w1 _ y0); clear hQ' D0 D1 D2 D3 y0 y1 y2 y3))
          go_ret2
          exact ⟨rfl, bb2⟩
        | false =>
          obtain rfl : ye = 0 := by simpa using hye
          rw [if_neg (by simp)]
          clear hye
          show Calls Tryd.prog 26 _ w fun e w' => e = .returned (pr (wth (x - y))) ∧ _
          go_enter Tryd.func26, Tryd.ntmps26
          go_wp2_with (first
            | (go_at_call 26; refine hP.mono ?_; rintro e w1 ⟨rfl, b1⟩; have bb1 := hb0.trans (b1.mono hb0.size); have hA1 := hA.keepB b1 (by simp); obtain ⟨y0, y1, y2, y3⟩ := id hA1; have D0 := (bb1.cell (p := ⟨b', off + 4, none⟩) hbl').trans r0; have D1 := (bb1.cell (p := ⟨b', off + 5, none⟩) hbl').trans r1; have D2 := (bb1.cell (p := ⟨b', off + 6, none⟩) hbl').trans r2; have D3 := (bb1.cell (p := ⟨b', off + 7, none⟩) hbl').trans r3; have hQ' := hQ w1 bb1; clear hP hQ C0 C1 C2 C3)
            | (go_at_call 26; refine hQ'.mono ?_; rintro e w2 ⟨rfl, b2⟩; have bb2 := bb1.trans (b2.mono bb1.size); obtain ⟨z0, z1, z2, z3⟩ := hA1.keepB b2 (World.block_lt_of_cell? w1 _ y0); clear hQ' D0 D1 D2 D3 y0 y1 y2 y3)
            | (go_at_call 37; refine (hWi _ _).mono ?_; rintro e w' ⟨rfl, rfl⟩))
          go_ret2
          exact ⟨rfl, bb2⟩
      · rw [if_neg (fun h => absurd h.1 (by decide)), if_neg (fun h => absurd h.1 (by decide))]
        cases hye : ye != 0 with
        | true =>
          rw [if_pos (by simpa using hye)]
          go_enter Tryd.func26, Tryd.ntmps26
          go_wp2_with (first
            | (go_at_call 26; refine hP.mono ?_; rintro e w1 ⟨rfl, b1⟩; have bb1 := hb0.trans (b1.mono hb0.size); have hA1 := hA.keepB b1 (by simp); obtain ⟨y0, y1, y2, y3⟩ := id hA1; have D0 := (bb1.cell (p := ⟨b', off + 4, none⟩) hbl').trans r0; have D1 := (bb1.cell (p := ⟨b', off + 5, none⟩) hbl').trans r1; have D2 := (bb1.cell (p := ⟨b', off + 6, none⟩) hbl').trans r2; have D3 := (bb1.cell (p := ⟨b', off + 7, none⟩) hbl').trans r3; have hQ' := hQ w1 bb1; clear hP hQ C0 C1 C2 C3)
            | (go_at_call 26; refine hQ'.mono ?_; rintro e w2 ⟨rfl, b2⟩; have bb2 := bb1.trans (b2.mono bb1.size); obtain ⟨z0, z1, z2, z3⟩ := hA1.keepB b2 (World.block_lt_of_cell? w1 _ y0); clear hQ' D0 D1 D2 D3 y0 y1 y2 y3))
          go_ret2
          exact ⟨rfl, bb2⟩
        | false =>
          obtain rfl : ye = 0 := by simpa using hye
          rw [if_neg (by simp)]
          clear hye
          show Calls Tryd.prog 26 _ w fun e w' => e = .returned (pr (wth (x * y))) ∧ _
          go_enter Tryd.func26, Tryd.ntmps26
          go_wp2_with (first
            | (go_at_call 26; refine hP.mono ?_; rintro e w1 ⟨rfl, b1⟩; have bb1 := hb0.trans (b1.mono hb0.size); have hA1 := hA.keepB b1 (by simp); obtain ⟨y0, y1, y2, y3⟩ := id hA1; have D0 := (bb1.cell (p := ⟨b', off + 4, none⟩) hbl').trans r0; have D1 := (bb1.cell (p := ⟨b', off + 5, none⟩) hbl').trans r1; have D2 := (bb1.cell (p := ⟨b', off + 6, none⟩) hbl').trans r2; have D3 := (bb1.cell (p := ⟨b', off + 7, none⟩) hbl').trans r3; have hQ' := hQ w1 bb1; clear hP hQ C0 C1 C2 C3)
            | (go_at_call 26; refine hQ'.mono ?_; rintro e w2 ⟨rfl, b2⟩; have bb2 := bb1.trans (b2.mono bb1.size); obtain ⟨z0, z1, z2, z3⟩ := hA1.keepB b2 (World.block_lt_of_cell? w1 _ y0); clear hQ' D0 D1 D2 D3 y0 y1 y2 y3)
            | (go_at_call 37; refine (hWi _ _).mono ?_; rintro e w' ⟨rfl, rfl⟩))
          go_ret2
          exact ⟨rfl, bb2⟩
      · rw [if_neg (fun h => absurd h.1 (by decide)), if_neg (fun h => absurd h.1 (by decide))]
        cases hye : ye != 0 with
        | true =>
          rw [if_pos (by simpa using hye)]
          go_enter Tryd.func26, Tryd.ntmps26
          go_wp2_with (first
            | (go_at_call 26; refine hP.mono ?_; rintro e w1 ⟨rfl, b1⟩; have bb1 := hb0.trans (b1.mono hb0.size); have hA1 := hA.keepB b1 (by simp); obtain ⟨y0, y1, y2, y3⟩ := id hA1; have D0 := (bb1.cell (p := ⟨b', off + 4, none⟩) hbl').trans r0; have D1 := (bb1.cell (p := ⟨b', off + 5, none⟩) hbl').trans r1; have D2 := (bb1.cell (p := ⟨b', off + 6, none⟩) hbl').trans r2; have D3 := (bb1.cell (p := ⟨b', off + 7, none⟩) hbl').trans r3; have hQ' := hQ w1 bb1; clear hP hQ C0 C1 C2 C3)
            | (go_at_call 26; refine hQ'.mono ?_; rintro e w2 ⟨rfl, b2⟩; have bb2 := bb1.trans (b2.mono bb1.size); obtain ⟨z0, z1, z2, z3⟩ := hA1.keepB b2 (World.block_lt_of_cell? w1 _ y0); clear hQ' D0 D1 D2 D3 y0 y1 y2 y3))
          go_ret2
          exact ⟨rfl, bb2⟩
        | false =>
          obtain rfl : ye = 0 := by simpa using hye
          rw [if_neg (by simp)]
          clear hye
          show Calls Tryd.prog 26 _ w fun e w' => e = .returned (pr ((tru (decide (x < y)), 0))) ∧ _
          go_enter Tryd.func26, Tryd.ntmps26
          go_wp2_with (first
            | (go_at_call 26; refine hP.mono ?_; rintro e w1 ⟨rfl, b1⟩; have bb1 := hb0.trans (b1.mono hb0.size); have hA1 := hA.keepB b1 (by simp); obtain ⟨y0, y1, y2, y3⟩ := id hA1; have D0 := (bb1.cell (p := ⟨b', off + 4, none⟩) hbl').trans r0; have D1 := (bb1.cell (p := ⟨b', off + 5, none⟩) hbl').trans r1; have D2 := (bb1.cell (p := ⟨b', off + 6, none⟩) hbl').trans r2; have D3 := (bb1.cell (p := ⟨b', off + 7, none⟩) hbl').trans r3; have hQ' := hQ w1 bb1; clear hP hQ C0 C1 C2 C3)
            | (go_at_call 26; refine hQ'.mono ?_; rintro e w2 ⟨rfl, b2⟩; have bb2 := bb1.trans (b2.mono bb1.size); obtain ⟨z0, z1, z2, z3⟩ := hA1.keepB b2 (World.block_lt_of_cell? w1 _ y0); clear hQ' D0 D1 D2 D3 y0 y1 y2 y3)
            | (go_at_call 38; refine (hTr _ _).mono ?_; rintro e w' ⟨rfl, rfl⟩))
          go_ret2
          exact ⟨rfl, bb2⟩
      · rw [if_neg (fun h => absurd h.1 (by decide)), if_neg (fun h => absurd h.1 (by decide))]
        cases hye : ye != 0 with
        | true =>
          rw [if_pos (by simpa using hye)]
          go_enter Tryd.func26, Tryd.ntmps26
          go_wp2_with (first
            | (go_at_call 26; refine hP.mono ?_; rintro e w1 ⟨rfl, b1⟩; have bb1 := hb0.trans (b1.mono hb0.size); have hA1 := hA.keepB b1 (by simp); obtain ⟨y0, y1, y2, y3⟩ := id hA1; have D0 := (bb1.cell (p := ⟨b', off + 4, none⟩) hbl').trans r0; have D1 := (bb1.cell (p := ⟨b', off + 5, none⟩) hbl').trans r1; have D2 := (bb1.cell (p := ⟨b', off + 6, none⟩) hbl').trans r2; have D3 := (bb1.cell (p := ⟨b', off + 7, none⟩) hbl').trans r3; have hQ' := hQ w1 bb1; clear hP hQ C0 C1 C2 C3)
            | (go_at_call 26; refine hQ'.mono ?_; rintro e w2 ⟨rfl, b2⟩; have bb2 := bb1.trans (b2.mono bb1.size); obtain ⟨z0, z1, z2, z3⟩ := hA1.keepB b2 (World.block_lt_of_cell? w1 _ y0); clear hQ' D0 D1 D2 D3 y0 y1 y2 y3))
          go_ret2
          exact ⟨rfl, bb2⟩
        | false =>
          obtain rfl : ye = 0 := by simpa using hye
          rw [if_neg (by simp)]
          clear hye
          show Calls Tryd.prog 26 _ w fun e w' => e = .returned (pr ((tru (decide (x ≤ y)), 0))) ∧ _
          go_enter Tryd.func26, Tryd.ntmps26
          go_wp2_with (first
            | (go_at_call 26; refine hP.mono ?_; rintro e w1 ⟨rfl, b1⟩; have bb1 := hb0.trans (b1.mono hb0.size); have hA1 := hA.keepB b1 (by simp); obtain ⟨y0, y1, y2, y3⟩ := id hA1; have D0 := (bb1.cell (p := ⟨b', off + 4, none⟩) hbl').trans r0; have D1 := (bb1.cell (p := ⟨b', off + 5, none⟩) hbl').trans r1; have D2 := (bb1.cell (p := ⟨b', off + 6, none⟩) hbl').trans r2; have D3 := (bb1.cell (p := ⟨b', off + 7, none⟩) hbl').trans r3; have hQ' := hQ w1 bb1; clear hP hQ C0 C1 C2 C3)
            | (go_at_call 26; refine hQ'.mono ?_; rintro e w2 ⟨rfl, b2⟩; have bb2 := bb1.trans (b2.mono bb1.size); obtain ⟨z0, z1, z2, z3⟩ := hA1.keepB b2 (World.block_lt_of_cell? w1 _ y0); clear hQ' D0 D1 D2 D3 y0 y1 y2 y3)
            | (go_at_call 38; refine (hTr _ _).mono ?_; rintro e w' ⟨rfl, rfl⟩))
          go_ret2
          exact ⟨rfl, bb2⟩
      · rw [if_neg (fun h => absurd h.1 (by decide)), if_neg (fun h => absurd h.1 (by decide))]
        cases hye : ye != 0 with
        | true =>
          rw [if_pos (by simpa using hye)]
          go_enter Tryd.func26, Tryd.ntmps26
          go_wp2_with (first
            | (go_at_call 26; refine hP.mono ?_; rintro e w1 ⟨rfl, b1⟩; have bb1 := hb0.trans (b1.mono hb0.size); have hA1 := hA.keepB b1 (by simp); obtain ⟨y0, y1, y2, y3⟩ := id hA1; have D0 := (bb1.cell (p := ⟨b', off + 4, none⟩) hbl').trans r0; have D1 := (bb1.cell (p := ⟨b', off + 5, none⟩) hbl').trans r1; have D2 := (bb1.cell (p := ⟨b', off + 6, none⟩) hbl').trans r2; have D3 := (bb1.cell (p := ⟨b', off + 7, none⟩) hbl').trans r3; have hQ' := hQ w1 bb1; clear hP hQ C0 C1 C2 C3)
            | (go_at_call 26; refine hQ'.mono ?_; rintro e w2 ⟨rfl, b2⟩; have bb2 := bb1.trans (b2.mono bb1.size); obtain ⟨z0, z1, z2, z3⟩ := hA1.keepB b2 (World.block_lt_of_cell? w1 _ y0); clear hQ' D0 D1 D2 D3 y0 y1 y2 y3))
          go_ret2
          exact ⟨rfl, bb2⟩
        | false =>
          obtain rfl : ye = 0 := by simpa using hye
          rw [if_neg (by simp)]
          clear hye
          show Calls Tryd.prog 26 _ w fun e w' => e = .returned (pr ((tru (x == y), 0))) ∧ _
          go_enter Tryd.func26, Tryd.ntmps26
          go_wp2_with (first
            | (go_at_call 26; refine hP.mono ?_; rintro e w1 ⟨rfl, b1⟩; have bb1 := hb0.trans (b1.mono hb0.size); have hA1 := hA.keepB b1 (by simp); obtain ⟨y0, y1, y2, y3⟩ := id hA1; have D0 := (bb1.cell (p := ⟨b', off + 4, none⟩) hbl').trans r0; have D1 := (bb1.cell (p := ⟨b', off + 5, none⟩) hbl').trans r1; have D2 := (bb1.cell (p := ⟨b', off + 6, none⟩) hbl').trans r2; have D3 := (bb1.cell (p := ⟨b', off + 7, none⟩) hbl').trans r3; have hQ' := hQ w1 bb1; clear hP hQ C0 C1 C2 C3)
            | (go_at_call 26; refine hQ'.mono ?_; rintro e w2 ⟨rfl, b2⟩; have bb2 := bb1.trans (b2.mono bb1.size); obtain ⟨z0, z1, z2, z3⟩ := hA1.keepB b2 (World.block_lt_of_cell? w1 _ y0); clear hQ' D0 D1 D2 D3 y0 y1 y2 y3)
            | (go_at_call 38; refine (hTr _ _).mono ?_; rintro e w' ⟨rfl, rfl⟩))
          go_ret2
          exact ⟨rfl, bb2⟩
      · rw [if_neg (fun h => absurd h.1 (by decide)), if_neg (fun h => absurd h.1 (by decide))]
        cases hye : ye != 0 with
        | true =>
          rw [if_pos (by simpa using hye)]
          go_enter Tryd.func26, Tryd.ntmps26
          go_wp2_with (first
            | (go_at_call 26; refine hP.mono ?_; rintro e w1 ⟨rfl, b1⟩; have bb1 := hb0.trans (b1.mono hb0.size); have hA1 := hA.keepB b1 (by simp); obtain ⟨y0, y1, y2, y3⟩ := id hA1; have D0 := (bb1.cell (p := ⟨b', off + 4, none⟩) hbl').trans r0; have D1 := (bb1.cell (p := ⟨b', off + 5, none⟩) hbl').trans r1; have D2 := (bb1.cell (p := ⟨b', off + 6, none⟩) hbl').trans r2; have D3 := (bb1.cell (p := ⟨b', off + 7, none⟩) hbl').trans r3; have hQ' := hQ w1 bb1; clear hP hQ C0 C1 C2 C3)
            | (go_at_call 26; refine hQ'.mono ?_; rintro e w2 ⟨rfl, b2⟩; have bb2 := bb1.trans (b2.mono bb1.size); obtain ⟨z0, z1, z2, z3⟩ := hA1.keepB b2 (World.block_lt_of_cell? w1 _ y0); clear hQ' D0 D1 D2 D3 y0 y1 y2 y3))
          go_ret2
          exact ⟨rfl, bb2⟩
        | false =>
          obtain rfl : ye = 0 := by simpa using hye
          rw [if_neg (by simp)]
          clear hye
          show Calls Tryd.prog 26 _ w fun e w' => e = .returned (pr ((tru (x != y), 0))) ∧ _
          go_enter Tryd.func26, Tryd.ntmps26
          go_wp2_with (first
            | (go_at_call 26; refine hP.mono ?_; rintro e w1 ⟨rfl, b1⟩; have bb1 := hb0.trans (b1.mono hb0.size); have hA1 := hA.keepB b1 (by simp); obtain ⟨y0, y1, y2, y3⟩ := id hA1; have D0 := (bb1.cell (p := ⟨b', off + 4, none⟩) hbl').trans r0; have D1 := (bb1.cell (p := ⟨b', off + 5, none⟩) hbl').trans r1; have D2 := (bb1.cell (p := ⟨b', off + 6, none⟩) hbl').trans r2; have D3 := (bb1.cell (p := ⟨b', off + 7, none⟩) hbl').trans r3; have hQ' := hQ w1 bb1; clear hP hQ C0 C1 C2 C3)
            | (go_at_call 26; refine hQ'.mono ?_; rintro e w2 ⟨rfl, b2⟩; have bb2 := bb1.trans (b2.mono bb1.size); obtain ⟨z0, z1, z2, z3⟩ := hA1.keepB b2 (World.block_lt_of_cell? w1 _ y0); clear hQ' D0 D1 D2 D3 y0 y1 y2 y3)
            | (go_at_call 38; refine (hTr _ _).mono ?_; rintro e w' ⟨rfl, rfl⟩))
          go_ret2
          exact ⟨rfl, bb2⟩
      · by_cases hx0 : x = 0
        · subst hx0
          rw [if_pos ⟨by decide, rfl⟩]
          clear hQ hml hml2
          go_enter Tryd.func26, Tryd.ntmps26
          go_wp2_with (first
            | (go_at_call 26; refine hP.mono ?_; rintro e w1 ⟨rfl, b1⟩; have bb1 := hb0.trans (b1.mono hb0.size); have hA1 := hA.keepB b1 (by simp); obtain ⟨y0, y1, y2, y3⟩ := id hA1; clear hP C0 C1 C2 C3))
          go_ret2
          exact ⟨rfl, bb1⟩
        · have e0 : (x == 0) = false := beq_eq_false_iff_ne.2 hx0
          rw [if_neg (fun h => hx0 h.2), if_neg (fun h => absurd h.1 (by decide))]
          cases hye : ye != 0 with
          | true =>
            rw [if_pos (by simpa using hye)]
            go_enter Tryd.func26, Tryd.ntmps26
            go_wp2_with (first
              | (go_at_call 26; refine hP.mono ?_; rintro e w1 ⟨rfl, b1⟩; have bb1 := hb0.trans (b1.mono hb0.size); have hA1 := hA.keepB b1 (by simp); obtain ⟨y0, y1, y2, y3⟩ := id hA1; have D0 := (bb1.cell (p := ⟨b', off + 4, none⟩) hbl').trans r0; have D1 := (bb1.cell (p := ⟨b', off + 5, none⟩) hbl').trans r1; have D2 := (bb1.cell (p := ⟨b', off + 6, none⟩) hbl').trans r2; have D3 := (bb1.cell (p := ⟨b', off + 7, none⟩) hbl').trans r3; have hQ' := hQ w1 bb1; clear hP hQ C0 C1 C2 C3)
              | (go_at_call 26; refine hQ'.mono ?_; rintro e w2 ⟨rfl, b2⟩; have bb2 := bb1.trans (b2.mono bb1.size); obtain ⟨z0, z1, z2, z3⟩ := hA1.keepB b2 (World.block_lt_of_cell? w1 _ y0); clear hQ' D0 D1 D2 D3 y0 y1 y2 y3))
            go_ret2
            exact ⟨rfl, bb2⟩
          | false =>
            obtain rfl : ye = 0 := by simpa using hye
            rw [if_neg (by simp)]
            clear hye
            show Calls Tryd.prog 26 _ w fun e w' => e = .returned (pr ((tru (y != 0), 0))) ∧ _
            go_enter Tryd.func26, Tryd.ntmps26
            go_wp2_with (first
              | (go_at_call 26; refine hP.mono ?_; rintro e w1 ⟨rfl, b1⟩; have bb1 := hb0.trans (b1.mono hb0.size); have hA1 := hA.keepB b1 (by simp); obtain ⟨y0, y1, y2, y3⟩ := id hA1; have D0 := (bb1.cell (p := ⟨b', off + 4, none⟩) hbl').trans r0; have D1 := (bb1.cell (p := ⟨b', off + 5, none⟩) hbl').trans r1; have D2 := (bb1.cell (p := ⟨b', off + 6, none⟩) hbl').trans r2; have D3 := (bb1.cell (p := ⟨b', off + 7, none⟩) hbl').trans r3; have hQ' := hQ w1 bb1; clear hP hQ C0 C1 C2 C3)
              | (go_at_call 26; refine hQ'.mono ?_; rintro e w2 ⟨rfl, b2⟩; have bb2 := bb1.trans (b2.mono bb1.size); obtain ⟨z0, z1, z2, z3⟩ := hA1.keepB b2 (World.block_lt_of_cell? w1 _ y0); clear hQ' D0 D1 D2 D3 y0 y1 y2 y3)
              | (go_at_call 38; refine (hTr _ _).mono ?_; rintro e w' ⟨rfl, rfl⟩))
            go_ret2
            exact ⟨rfl, bb2⟩
      · by_cases hx0 : x = 0
        · subst hx0
          rw [if_neg (fun h => absurd h.1 (by decide)), if_neg (fun h => h.2 rfl)]
          clear hml hml2
          cases hye : ye != 0 with
          | true =>
            rw [if_pos (by simpa using hye)]
            go_enter Tryd.func26, Tryd.ntmps26
            go_wp2_with (first
              | (go_at_call 26; refine hP.mono ?_; rintro e w1 ⟨rfl, b1⟩; have bb1 := hb0.trans (b1.mono hb0.size); have hA1 := hA.keepB b1 (by simp); obtain ⟨y0, y1, y2, y3⟩ := id hA1; have D0 := (bb1.cell (p := ⟨b', off + 4, none⟩) hbl').trans r0; have D1 := (bb1.cell (p := ⟨b', off + 5, none⟩) hbl').trans r1; have D2 := (bb1.cell (p := ⟨b', off + 6, none⟩) hbl').trans r2; have D3 := (bb1.cell (p := ⟨b', off + 7, none⟩) hbl').trans r3; have hQ' := hQ w1 bb1; clear hP hQ C0 C1 C2 C3)
              | (go_at_call 26; refine hQ'.mono ?_; rintro e w2 ⟨rfl, b2⟩; have bb2 := bb1.trans (b2.mono bb1.size); obtain ⟨z0, z1, z2, z3⟩ := hA1.keepB b2 (World.block_lt_of_cell? w1 _ y0); clear hQ' D0 D1 D2 D3 y0 y1 y2 y3))
            go_ret2
            exact ⟨rfl, bb2⟩
          | false =>
            obtain rfl : ye = 0 := by simpa using hye
            rw [if_neg (by simp)]
            clear hye
            show Calls Tryd.prog 26 _ w fun e w' => e = .returned (pr ((tru (y != 0), 0))) ∧ _
            go_enter Tryd.func26, Tryd.ntmps26
            go_wp2_with (first
              | (go_at_call 26; refine hP.mono ?_; rintro e w1 ⟨rfl, b1⟩; have bb1 := hb0.trans (b1.mono hb0.size); have hA1 := hA.keepB b1 (by simp); obtain ⟨y0, y1, y2, y3⟩ := id hA1; have D0 := (bb1.cell (p := ⟨b', off + 4, none⟩) hbl').trans r0; have D1 := (bb1.cell (p := ⟨b', off + 5, none⟩) hbl').trans r1; have D2 := (bb1.cell (p := ⟨b', off + 6, none⟩) hbl').trans r2; have D3 := (bb1.cell (p := ⟨b', off + 7, none⟩) hbl').trans r3; have hQ' := hQ w1 bb1; clear hP hQ C0 C1 C2 C3)
              | (go_at_call 26; refine hQ'.mono ?_; rintro e w2 ⟨rfl, b2⟩; have bb2 := bb1.trans (b2.mono bb1.size); obtain ⟨z0, z1, z2, z3⟩ := hA1.keepB b2 (World.block_lt_of_cell? w1 _ y0); clear hQ' D0 D1 D2 D3 y0 y1 y2 y3)
              | (go_at_call 38; refine (hTr _ _).mono ?_; rintro e w' ⟨rfl, rfl⟩))
            go_ret2
            exact ⟨rfl, bb2⟩
        · have e0 : (x != 0) = true := by simpa using hx0
          rw [if_neg (fun h => absurd h.1 (by decide)), if_pos ⟨by decide, hx0⟩]
          clear hQ hml hml2
          go_enter Tryd.func26, Tryd.ntmps26
          go_wp2_with (first
            | (go_at_call 26; refine hP.mono ?_; rintro e w1 ⟨rfl, b1⟩; have bb1 := hb0.trans (b1.mono hb0.size); have hA1 := hA.keepB b1 (by simp); obtain ⟨y0, y1, y2, y3⟩ := id hA1; clear hP C0 C1 C2 C3))
          go_ret2
          exact ⟨rfl, bb1⟩
  · unfold none0 at hs
    rw [sdC_mk] at hs
    simp at hs
theorem eval_any : ∀ (d : Nat), EvalC d
  | 0 => fun _ _ t => Empty.elim t
  | d + 1 => eval_step d (eval_any d)
end Go.Proofs.YtjbfhpgiobddoaaDoor
