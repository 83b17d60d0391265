/- What the program's variable does. -/
import Derived.Test.YtjbfhpgiobddoaaPxW
namespace Go.Proofs.Ytjbfhpgiobddoaa
open Go.RowKit Go.Lib
set_option linter.unusedSimpArgs false
set_option linter.unusedVariables false
attribute [local go_sem ↓] Go.wp_at_zero Go.wp_at_succ

set_option maxRecDepth 100000 in
set_option maxHeartbeats 4000000 in
theorem pVariable_any (vs : List Vr) (s : ByteArray) (vv : Value) (w : World) (hv : RdV w vv vs) (hl : vs.length ≤ 10000) :
    Calls Try.prog 27 #[.string s, vv] w fun e w' => e = .returned (pr2 (look vs s)) ∧ Below w.heap.size w w' := by
  obtain ⟨a, cap, rfl, hlc, hcm, hcell⟩ := hv.form
  obtain ⟨V, hV⟩ : ∃ V, look vs s = V := ⟨_, rfl⟩
  rw [hV]
  have HV : Hid (look (vs.drop 0) s = V) := hV
  have HC : Hid (∀ (i : Nat) (hi : i < vs.length), ∃ b off, a = some ⟨b, off, none⟩ ∧ b < w.heap.size ∧ w.cell? ⟨b, off + i * 2, none⟩ = some (.string (vs[i]).1) ∧ w.cell? ⟨b, off + i * 2 + 1, none⟩ = some (.int .i64 (vs[i]).2)) := hcell
  have hWi := fun n w1 => pRange_any n w1
  clear hcell hv hV
  go_enter Try.func27, Try.ntmps27
  go_wp2
  go_loopw [10] (fun i wr => ∃ (j : Nat), j ≤ vs.length ∧ i = .int .i64 (j : Int) ∧ Hid (look (vs.drop j) s = V) ∧ Below w.heap.size w wr) (fun i _ => vs.length - (RowKit.intOf i).toNat)
  case atStart => exact ⟨0, Nat.zero_le _, rfl, HV, Below.refl _ _⟩
  case round =>
    obtain ⟨j, hj, rfl, hlk, hb⟩ := hrel
    by_cases hlt : j < vs.length
    · obtain ⟨b, off, rfl, hbl, k0, k1⟩ := HC.out j hlt
      have C0 := (hb.cell (p := ⟨b, off + j * 2, none⟩) hbl).trans k0
      have C1 := (hb.cell (p := ⟨b, off + j * 2 + 1, none⟩) hbl).trans k1
      have hll := hlk.out
      rw [List.drop_eq_getElem_cons hlt] at hll
      have i1 : (j : Int) < (vs.length : Int) := by omega
      have i2 : (0 : Int) ≤ (j : Int) := by omega
      obtain ⟨xs, hxs⟩ : ∃ x, (vs[j]).1 = x := ⟨_, rfl⟩
      obtain ⟨xn, hxn⟩ : ∃ x, (vs[j]).2 = x := ⟨_, rfl⟩
      unfold look at hll
      rw [hxs, hxn] at hll
      rw [hxs] at C0
      rw [hxn] at C1
      have b2 := hb.alloc hb.size (.cells #[.string xs, .int .i64 xn] 60)
      clear k0 k1 hxs hxn
      by_cases he : xs = s
      · subst he
        rw [if_pos rfl] at hll
        subst hll
        go_wp2_with (first
          | (go_at_call 32; refine (hWi _ _).mono ?_; rintro e w' ⟨rfl, rfl⟩))
        go_ret2
        exact ⟨rfl, b2⟩
      · rw [if_neg he] at hll
        have hN : Hid (look (vs.drop (j + 1)) s = V) := hll
        have hs : (xs.toList == s.toList) = false := by
          rw [ByteArray.toList_eq, ByteArray.toList_eq]
          exact beq_eq_false_iff_ne.2 (fun e => he (ByteArray.ext (Array.toList_inj.1 e)))
        clear he hll
        go_wp2
        go_roundw
        case rel => exact ⟨j + 1, hlt, by go_num, hN, b2⟩
        case measure => simp [RowKit.intOf]; omega
    · have i1 : ¬ (j : Int) < (vs.length : Int) := by omega
      have hll := hlk.out
      rw [List.drop_eq_nil_of_le (by omega)] at hll
      subst hll
      go_wp2
      go_ret2
      exact ⟨rfl, hb⟩

def ValC (d : Nat) : Prop := ∀ (vs : List Vr) (t : T d) (vv : Value) (w : World), Cl d t → sdC d t = true → RdV w vv vs → vs.length ≤ 10000 →
  Calls Try.prog 24 #[exV d t, vv] w fun e w' => e = .returned (pr2 (evC vs d t)) ∧ Below w.heap.size w w'
/-- What is made of two sides. -/
def bnC (s : ByteArray) (x : Int) (q : Int × Int) : Int × Int := if bl s = [38, 38] ∧ x = 0 then (0, 0) else if bl s = [124, 124] ∧ x ≠ 0 then (1, 0) else if q.2 ≠ 0 then (0, q.2) else bin (bl s) x q.1
set_option maxRecDepth 100000 in
set_option maxHeartbeats 4000000 in
theorem bin_any {d : Nat} (IH : ValC d) (vs : List Vr) (s : ByteArray) (x : Int) (q : T d) (vv : Value) (w : World) (hq : Cl d q) (hsq : sdC d q = true) (h1 : -1000000000 ≤ x) (h2 : x ≤ 1000000000) (hv : RdV w vv vs) (hl : vs.length ≤ 10000) :
    Calls Try.prog 29 #[.string s, .int .i64 x, exV d q, vv] w fun e w' => e = .returned (pr2 (bnC s x (evC vs d q))) ∧ Below w.heap.size w w' := by
  have hc := fun w1 (b : Below w.heap.size w w1) => IH vs q vv w1 hq hsq (hv.below b (Nat.le_refl _)) hl
  have hc := hc w (Below.refl _ _)
  have hbd := evC_bd vs d q hq hsq
  have ht := fun b w1 => pTruth_any b w1
  have hR := fun n w1 => pRange_any n w1
  have q7 : (s.toList == [38, 38]) = (bl s == [38, 38]) := str_is2 s _
  have q8 : (s.toList == [124, 124]) = (bl s == [124, 124]) := str_is2 s _
  obtain ⟨⟨y, ye⟩, hy⟩ : ∃ y, evC vs d q = y := ⟨_, rfl⟩
  rw [hy] at hc hbd ⊢
  have hW := fun w1 => pWorked_any s x y h1 h2 hbd.1 hbd.2 w1
  have hwk := wth_wk (bl s) x y
  unfold bnC
  simp only
  unfold pr2 at hc
  simp only at hc
  obtain ⟨z, hz⟩ : ∃ z, exV d q = z := ⟨_, rfl⟩
  rw [hz] at hc ⊢
  clear hy hz hq hsq IH hv
  by_cases a1 : bl s = [38, 38]
  · have a2 : (bl s == [38, 38]) = true := by rw [a1]; rfl
    have a3 : (bl s == [124, 124]) = false := by rw [a1]; rfl
    rw [a2] at q7
    rw [a3] at q8
    clear a2 a3
    by_cases a4 : x = 0
    · subst a4
      rw [if_pos ⟨a1, rfl⟩]
      clear a1 hc hW hwk hR
      go_enter Try.func29, Try.ntmps29
      go_wp2_with (first
        | (go_at_call 28; refine (ht _ _).mono ?_; rintro e w1 ⟨rfl, rfl⟩))
      go_ret2
      exact ⟨rfl, Below.refl _ _⟩
    · have a5 : (x == 0) = false := beq_eq_false_iff_ne.2 a4
      rw [if_neg (fun h => a4 h.2), if_neg (by rw [a1]; simp)]
      clear a1
      obtain ⟨W, hWW⟩ : ∃ W, wk (bl s) x y = W := ⟨_, rfl⟩
      rw [hWW] at hwk
      simp only [hWW] at hW
      clear hWW
      rw [← hwk]
      clear hwk
      by_cases ye0 : ye = 0
      · subst ye0
        rw [if_neg (by simp)]
        go_enter Try.func29, Try.ntmps29
        go_wp2_with (first
          | (go_at_call 24; refine hc.mono ?_; rintro e w1 ⟨rfl, b1⟩)
          | (go_at_call 33; refine (hW _).mono ?_; rintro e w2 ⟨rfl, rfl⟩)
          | (go_at_call 32; refine (hR _ _).mono ?_; rintro e w2 ⟨rfl, rfl⟩))
        go_ret2
        exact ⟨rfl, b1⟩
      · have y0 : (ye == 0) = false := beq_eq_false_iff_ne.2 ye0
        have y1 : (ye != 0) = true := by simp [ye0]
        rw [if_pos ye0]
        clear ye0
        go_enter Try.func29, Try.ntmps29
        go_wp2_with (first
          | (go_at_call 24; refine hc.mono ?_; rintro e w1 ⟨rfl, b1⟩))
        go_ret2
        exact ⟨rfl, b1⟩
  · have a2 : (bl s == [38, 38]) = false := beq_eq_false_iff_ne.2 a1
    rw [a2] at q7
    rw [if_neg (fun h => a1 h.1)]
    clear a2 a1
    by_cases a1 : bl s = [124, 124]
    · have a3 : (bl s == [124, 124]) = true := by rw [a1]; rfl
      rw [a3] at q8
      clear a3
      by_cases a4 : x = 0
      · subst a4
        have a5 : ((0 : Int) != 0) = false := rfl
        rw [if_neg (by simp)]
        clear a1
        obtain ⟨W, hWW⟩ : ∃ W, wk (bl s) 0 y = W := ⟨_, rfl⟩
        rw [hWW] at hwk
        simp only [hWW] at hW
        clear hWW
        rw [← hwk]
        clear hwk
        by_cases ye0 : ye = 0
        · subst ye0
          rw [if_neg (by simp)]
          go_enter Try.func29, Try.ntmps29
          go_wp2_with (first
            | (go_at_call 24; refine hc.mono ?_; rintro e w1 ⟨rfl, b1⟩)
            | (go_at_call 33; refine (hW _).mono ?_; rintro e w2 ⟨rfl, rfl⟩)
            | (go_at_call 32; refine (hR _ _).mono ?_; rintro e w2 ⟨rfl, rfl⟩))
          go_ret2
          exact ⟨rfl, b1⟩
        · have y0 : (ye == 0) = false := beq_eq_false_iff_ne.2 ye0
          have y1 : (ye != 0) = true := by simp [ye0]
          rw [if_pos ye0]
          clear ye0
          go_enter Try.func29, Try.ntmps29
          go_wp2_with (first
            | (go_at_call 24; refine hc.mono ?_; rintro e w1 ⟨rfl, b1⟩))
          go_ret2
          exact ⟨rfl, b1⟩
      · have a5 : (x != 0) = true := by simp [a4]
        rw [if_pos ⟨a1, a4⟩]
        clear a4
        clear a1 hc hW hwk hR
        go_enter Try.func29, Try.ntmps29
        go_wp2_with (first
          | (go_at_call 28; refine (ht _ _).mono ?_; rintro e w1 ⟨rfl, rfl⟩))
        go_ret2
        exact ⟨rfl, Below.refl _ _⟩
    · have a3 : (bl s == [124, 124]) = false := beq_eq_false_iff_ne.2 a1
      rw [a3] at q8
      rw [if_neg (fun h => a1 h.1)]
      clear a1 a3
      obtain ⟨W, hWW⟩ : ∃ W, wk (bl s) x y = W := ⟨_, rfl⟩
      rw [hWW] at hwk
      simp only [hWW] at hW
      clear hWW
      rw [← hwk]
      clear hwk
      by_cases ye0 : ye = 0
      · subst ye0
        rw [if_neg (by simp)]
        go_enter Try.func29, Try.ntmps29
        go_wp2_with (first
          | (go_at_call 24; refine hc.mono ?_; rintro e w1 ⟨rfl, b1⟩)
          | (go_at_call 33; refine (hW _).mono ?_; rintro e w2 ⟨rfl, rfl⟩)
          | (go_at_call 32; refine (hR _ _).mono ?_; rintro e w2 ⟨rfl, rfl⟩))
        go_ret2
        exact ⟨rfl, b1⟩
      · have y0 : (ye == 0) = false := beq_eq_false_iff_ne.2 ye0
        have y1 : (ye != 0) = true := by simp [ye0]
        rw [if_pos ye0]
        clear ye0
        go_enter Try.func29, Try.ntmps29
        go_wp2_with (first
          | (go_at_call 24; refine hc.mono ?_; rintro e w1 ⟨rfl, b1⟩))
        go_ret2
        exact ⟨rfl, b1⟩

theorem evC_bn (vs : List Vr) {d : Nat} (n : Int) (s : ByteArray) (p q : T d) : evC vs (d + 1) (mkT 5 n s [p, q]) = if (evC vs d p).2 ≠ 0 then (0, (evC vs d p).2) else bnC s (evC vs d p).1 (evC vs d q) := rfl
set_option maxRecDepth 100000 in
set_option maxHeartbeats 4000000 in
theorem val_step (d : Nat) (IH : ValC d) : ValC (d + 1) := by
  intro vs t vv w hc hs hv hl
  rcases hc.cases with ⟨n, rfl⟩ | ⟨s, rfl⟩ | ⟨k, p, hk, rfl, hp⟩ | ⟨s, p, q, rfl, hp, hq⟩ | rfl
  · have htop := top_lit n w
    rw [evC_1]
    unfold topV at htop
    obtain ⟨x, hx⟩ : ∃ x, exV (d + 1) (mkT 1 n ⟨#[]⟩ []) = x := ⟨_, rfl⟩
    have htop' : Calls Try.prog 17 #[x] w fun e w' => ∃ sl, e = .returned (.agg #[.int .i64 1, .int .i64 n, .string ⟨#[]⟩, sl]) ∧ Kids w' sl [] ∧ Below w.heap.size w w' := by rw [← hx]; exact htop
    rw [hx]
    clear htop hx hs hc hv IH
    go_enter Try.func24, Try.ntmps24
    go_wp2_with (first
      | (go_at_call 17; refine htop'.mono ?_; rintro e w1 ⟨sl, rfl, hk1, b1⟩; obtain ⟨a1, rfl⟩ := hk1.form))
    go_ret2
    exact ⟨rfl, b1.alloc b1.size _⟩
  · have htop := top_ref s w
    rw [evC_2]
    obtain ⟨x, hx⟩ : ∃ x, exV (d + 1) (mkT 2 0 s []) = x := ⟨_, rfl⟩
    have htop' : Calls Try.prog 17 #[x] w fun e w' => ∃ sl, e = .returned (.agg #[.int .i64 2, .int .i64 0, .string s, sl]) ∧ Kids w' sl [] ∧ Below w.heap.size w w' := by rw [← hx]; exact htop
    rw [hx]
    have hV := fun w1 (b : Below w.heap.size w w1) => pVariable_any vs s vv w1 (hv.below b (Nat.le_refl _)) hl
    obtain ⟨⟨y, ye⟩, hy⟩ : ∃ y, look vs s = y := ⟨_, rfl⟩
    rw [hy]
    simp only [hy] at hV
    clear htop hx hs hc hv IH hy
    go_enter Try.func24, Try.ntmps24
    go_wp2_with (first
      | (go_at_call 17; refine htop'.mono ?_; rintro e w1 ⟨sl, rfl, hk1, b1⟩; obtain ⟨a1, rfl⟩ := hk1.form; have b2 := b1.alloc b1.size (.cells #[.int .i64 2, .int .i64 0, .string s, .slice a1 ([] : List Value).length ([] : List Value).length] 51); have hV' := hV _ b2)
      | (go_at_call 27; refine hV'.mono ?_; rintro e w2 ⟨rfl, b3⟩))
    go_ret2
    exact ⟨rfl, b2.trans (b3.mono b2.size)⟩
  · have hsp : sdC d p = true := by
      rw [sdC_mk, if_neg (by omega), if_neg (by omega), if_pos hk] at hs
      simpa using hs
    have hI := fun w1 (b : Below w.heap.size w w1) => IH vs p vv w1 hp hsp (hv.below b (Nat.le_refl _)) hl
    have hbd := evC_bd vs d p hp hsp
    have ht := fun b w1 => pTruth_any b w1
    obtain ⟨⟨y, ye⟩, hy⟩ : ∃ y, evC vs d p = y := ⟨_, rfl⟩
    obtain ⟨z, hz⟩ : ∃ z, exV d p = z := ⟨_, rfl⟩
    rcases hk with rfl | rfl
    · have htop := top_not (exV d p) (ifc_ex p) w
      obtain ⟨x, hx⟩ : ∃ x, exV (d + 1) (mkT 3 0 ⟨#[]⟩ [p]) = x := ⟨_, rfl⟩
      have htop' : Calls Try.prog 17 #[x] w fun e w' => ∃ sl, e = .returned (.agg #[.int .i64 3, .int .i64 0, .string ⟨#[]⟩, sl]) ∧ Kids w' sl [exV d p] ∧ Below w.heap.size w w' := by rw [← hx]; exact htop
      rw [hx]
      rw [evC_3]
      rw [hy] at hbd ⊢
      simp only [hy, hz] at hI
      rw [hz] at htop'
      clear htop hx hs hc hv IH hy hz hp hsp
      unfold pr2 at hI
      simp only at hI hbd ⊢
      by_cases ye0 : ye = 0
      · subst ye0
        rw [if_neg (by simp)]
        go_enter Try.func24, Try.ntmps24
        go_wp2_with (first
          | (go_at_call 17; refine htop'.mono ?_; rintro e w1 ⟨sl, rfl, hk1, b1⟩; obtain ⟨a1, rfl⟩ := hk1.form; obtain ⟨g, rfl, hcell⟩ := hk1.at (j := 0) (by simp); have b2 := b1.alloc b1.size (.cells #[.int .i64 3, .int .i64 0, .string ⟨#[]⟩, .slice (some ⟨g, 0, none⟩) 1 1] 51); have c0 := (((Below.refl w1.heap.size w1).alloc (Nat.le_refl _) (.cells #[.int .i64 3, .int .i64 0, .string ⟨#[]⟩, .slice (some ⟨g, 0, none⟩) 1 1] 51)).cell (p := ⟨g, 0, none⟩) (World.block_lt_of_cell? w1 _ hcell)).trans hcell; simp only [List.getElem_cons_zero] at c0; have hA := At4.new w1 (.int .i64 3) (.int .i64 0) (.string ⟨#[]⟩) (.slice (some ⟨g, 0, none⟩) 1 1) 51; have hI' := hI _ b2; clear hcell hk1 htop')
          | (go_at_call 24; refine hI'.mono ?_; rintro e w2 ⟨rfl, b3⟩; have hA2 := hA.keepB b3 (by simp); obtain ⟨y0, y1, y2, y3⟩ := id hA2; have b4 := b2.trans (b3.mono b2.size); clear hI' hI c0)
          | (go_at_call 28; refine (ht _ _).mono ?_; rintro e w3 ⟨rfl, rfl⟩))
        go_ret2
        exact ⟨rfl, b4⟩
      · have z0 : (ye == 0) = false := beq_eq_false_iff_ne.2 ye0
        have z1 : (ye != 0) = true := by simp [ye0]
        rw [if_pos ye0]
        clear ye0
        go_enter Try.func24, Try.ntmps24
        go_wp2_with (first
          | (go_at_call 17; refine htop'.mono ?_; rintro e w1 ⟨sl, rfl, hk1, b1⟩; obtain ⟨a1, rfl⟩ := hk1.form; obtain ⟨g, rfl, hcell⟩ := hk1.at (j := 0) (by simp); have b2 := b1.alloc b1.size (.cells #[.int .i64 3, .int .i64 0, .string ⟨#[]⟩, .slice (some ⟨g, 0, none⟩) 1 1] 51); have c0 := (((Below.refl w1.heap.size w1).alloc (Nat.le_refl _) (.cells #[.int .i64 3, .int .i64 0, .string ⟨#[]⟩, .slice (some ⟨g, 0, none⟩) 1 1] 51)).cell (p := ⟨g, 0, none⟩) (World.block_lt_of_cell? w1 _ hcell)).trans hcell; simp only [List.getElem_cons_zero] at c0; have hA := At4.new w1 (.int .i64 3) (.int .i64 0) (.string ⟨#[]⟩) (.slice (some ⟨g, 0, none⟩) 1 1) 51; have hI' := hI _ b2; clear hcell hk1 htop')
          | (go_at_call 24; refine hI'.mono ?_; rintro e w2 ⟨rfl, b3⟩; have hA2 := hA.keepB b3 (by simp); obtain ⟨y0, y1, y2, y3⟩ := id hA2; have b4 := b2.trans (b3.mono b2.size); clear hI' hI c0))
        go_ret2
        exact ⟨rfl, b4⟩
    · have htop := top_neg (exV d p) (ifc_ex p) w
      obtain ⟨x, hx⟩ : ∃ x, exV (d + 1) (mkT 4 0 ⟨#[]⟩ [p]) = x := ⟨_, rfl⟩
      have htop' : Calls Try.prog 17 #[x] w fun e w' => ∃ sl, e = .returned (.agg #[.int .i64 4, .int .i64 0, .string ⟨#[]⟩, sl]) ∧ Kids w' sl [exV d p] ∧ Below w.heap.size w w' := by rw [← hx]; exact htop
      rw [hx]
      rw [evC_4]
      rw [hy] at hbd ⊢
      simp only [hy, hz] at hI
      rw [hz] at htop'
      clear htop hx hs hc hv IH hy hz hp hsp
      unfold pr2 at hI
      simp only at hI hbd ⊢
      by_cases ye0 : ye = 0
      · subst ye0
        rw [if_neg (by simp)]
        go_enter Try.func24, Try.ntmps24
        go_wp2_with (first
          | (go_at_call 17; refine htop'.mono ?_; rintro e w1 ⟨sl, rfl, hk1, b1⟩; obtain ⟨a1, rfl⟩ := hk1.form; obtain ⟨g, rfl, hcell⟩ := hk1.at (j := 0) (by simp); have b2 := b1.alloc b1.size (.cells #[.int .i64 4, .int .i64 0, .string ⟨#[]⟩, .slice (some ⟨g, 0, none⟩) 1 1] 51); have c0 := (((Below.refl w1.heap.size w1).alloc (Nat.le_refl _) (.cells #[.int .i64 4, .int .i64 0, .string ⟨#[]⟩, .slice (some ⟨g, 0, none⟩) 1 1] 51)).cell (p := ⟨g, 0, none⟩) (World.block_lt_of_cell? w1 _ hcell)).trans hcell; simp only [List.getElem_cons_zero] at c0; have hA := At4.new w1 (.int .i64 4) (.int .i64 0) (.string ⟨#[]⟩) (.slice (some ⟨g, 0, none⟩) 1 1) 51; have hI' := hI _ b2; clear hcell hk1 htop')
          | (go_at_call 24; refine hI'.mono ?_; rintro e w2 ⟨rfl, b3⟩; have hA2 := hA.keepB b3 (by simp); obtain ⟨y0, y1, y2, y3⟩ := id hA2; have b4 := b2.trans (b3.mono b2.size); clear hI' hI c0))
        go_ret2
        exact ⟨rfl, b4⟩
      · have z0 : (ye == 0) = false := beq_eq_false_iff_ne.2 ye0
        have z1 : (ye != 0) = true := by simp [ye0]
        rw [if_pos ye0]
        clear ye0
        go_enter Try.func24, Try.ntmps24
        go_wp2_with (first
          | (go_at_call 17; refine htop'.mono ?_; rintro e w1 ⟨sl, rfl, hk1, b1⟩; obtain ⟨a1, rfl⟩ := hk1.form; obtain ⟨g, rfl, hcell⟩ := hk1.at (j := 0) (by simp); have b2 := b1.alloc b1.size (.cells #[.int .i64 4, .int .i64 0, .string ⟨#[]⟩, .slice (some ⟨g, 0, none⟩) 1 1] 51); have c0 := (((Below.refl w1.heap.size w1).alloc (Nat.le_refl _) (.cells #[.int .i64 4, .int .i64 0, .string ⟨#[]⟩, .slice (some ⟨g, 0, none⟩) 1 1] 51)).cell (p := ⟨g, 0, none⟩) (World.block_lt_of_cell? w1 _ hcell)).trans hcell; simp only [List.getElem_cons_zero] at c0; have hA := At4.new w1 (.int .i64 4) (.int .i64 0) (.string ⟨#[]⟩) (.slice (some ⟨g, 0, none⟩) 1 1) 51; have hI' := hI _ b2; clear hcell hk1 htop')
          | (go_at_call 24; refine hI'.mono ?_; rintro e w2 ⟨rfl, b3⟩; have hA2 := hA.keepB b3 (by simp); obtain ⟨y0, y1, y2, y3⟩ := id hA2; have b4 := b2.trans (b3.mono b2.size); clear hI' hI c0))
        go_ret2
        exact ⟨rfl, b4⟩
  · have hs2 : opr s = true ∧ sdC d p = true ∧ sdC d q = true := by
      rw [sdC_mk, if_neg (by omega), if_neg (by omega), if_neg (by omega), if_pos rfl] at hs
      simpa using hs
    obtain ⟨_, hsp, hsq⟩ := hs2
    have hI := fun w1 (b : Below w.heap.size w w1) => IH vs p vv w1 hp hsp (hv.below b (Nat.le_refl _)) hl
    have hbd := evC_bd vs d p hp hsp
    have hB := fun w1 (b : Below w.heap.size w w1) => bin_any IH vs s (evC vs d p).1 q vv w1 hq hsq hbd.1 hbd.2 (hv.below b (Nat.le_refl _)) hl
    have htop := top_bin s (exV d p) (exV d q) (ifc_ex p) (ifc_ex q) w
    obtain ⟨x, hx⟩ : ∃ x, exV (d + 1) (mkT 5 0 s [p, q]) = x := ⟨_, rfl⟩
    have htop' : Calls Try.prog 17 #[x] w fun e w' => ∃ sl, e = .returned (.agg #[.int .i64 5, .int .i64 0, .string s, sl]) ∧ Kids w' sl [exV d p, exV d q] ∧ Below w.heap.size w w' := by rw [← hx]; exact htop
    rw [hx]
    rw [evC_bn]
    obtain ⟨⟨y, ye⟩, hy⟩ : ∃ y, evC vs d p = y := ⟨_, rfl⟩
    obtain ⟨z, hz⟩ : ∃ z, exV d p = z := ⟨_, rfl⟩
    obtain ⟨z2, hz2⟩ : ∃ z, exV d q = z := ⟨_, rfl⟩
    rw [hy] at hbd ⊢
    simp only [hy, hz] at hI
    simp only [hy, hz2] at hB
    rw [hz, hz2] at htop'
    clear htop hx hs hc hv IH hy hz hz2 hp hsp hq hsq
    unfold pr2 at hI
    simp only at hI hbd ⊢
    obtain ⟨⟨r, re⟩, hr⟩ : ∃ r, bnC s y (evC vs d q) = r := ⟨_, rfl⟩
    simp only [hr] at hB
    rw [hr]
    clear hr
    unfold pr2 at hB
    simp only at hB
    by_cases ye0 : ye = 0
    · subst ye0
      rw [if_neg (by simp)]
      go_enter Try.func24, Try.ntmps24
      go_wp2_with (first
        | (go_at_call 17; refine htop'.mono ?_; rintro e w1 ⟨sl, rfl, hk1, b1⟩; obtain ⟨a1, rfl⟩ := hk1.form; obtain ⟨g, rfl, hcell⟩ := hk1.at (j := 0) (by simp); have hcell1 := hk1.cell1; have b2 := b1.alloc b1.size (.cells #[.int .i64 5, .int .i64 0, .string s, .slice (some ⟨g, 0, none⟩) 2 2] 51); have c0 := (((Below.refl w1.heap.size w1).alloc (Nat.le_refl _) (.cells #[.int .i64 5, .int .i64 0, .string s, .slice (some ⟨g, 0, none⟩) 2 2] 51)).cell (p := ⟨g, 0, none⟩) (World.block_lt_of_cell? w1 _ hcell)).trans hcell; simp only [List.getElem_cons_zero] at c0; have hA := At4.new w1 (.int .i64 5) (.int .i64 0) (.string s) (.slice (some ⟨g, 0, none⟩) 2 2) 51; have hI' := hI _ b2; clear hcell hk1 htop'; have c1 := (((Below.refl w1.heap.size w1).alloc (Nat.le_refl _) (.cells #[.int .i64 5, .int .i64 0, .string s, .slice (some ⟨g, 0, none⟩) 2 2] 51)).cell (p := ⟨g, 1, none⟩) (World.block_lt_of_cell? w1 _ hcell1)).trans hcell1; clear hcell1)
        | (go_at_call 24; refine hI'.mono ?_; rintro e w2 ⟨rfl, b3⟩; have hA2 := hA.keepB b3 (by simp); obtain ⟨y0, y1, y2, y3⟩ := id hA2; have b4 := b2.trans (b3.mono b2.size); have c2 := (b3.cell (p := ⟨g, 1, none⟩) (World.block_lt_of_cell? _ _ c1)).trans c1; clear hI' hI)
        | fail)
      have hB' := hB _ b4.drew
      go_region_held (fun w' => w'.cell? ⟨w1.heap.size, 2, none⟩ = some (.string s) ∧ w'.cell? ⟨w1.heap.size, 3, none⟩ = some (.slice (some ⟨g, 0, none⟩) 2 2) ∧ w'.cell? ⟨g, 1, none⟩ = some z2) (first | exact ⟨y2, y3, c2⟩ | exact ⟨d2, d3, d1⟩ | go_keep)
        (first
          | (go_at_call 29; refine hB'.mono ?_; rintro e w3 ⟨rfl, b5⟩; have b5' : Below w2.heap.size w2 w3 := ((Below.refl _ w2).drew).trans b5; have d2 := (b5'.cell (p := ⟨w1.heap.size, 2, none⟩) (World.block_lt_of_cell? _ _ y2)).trans y2; have d3 := (b5'.cell (p := ⟨w1.heap.size, 3, none⟩) (World.block_lt_of_cell? _ _ y3)).trans y3; have d1 := (b5'.cell (p := ⟨g, 1, none⟩) (World.block_lt_of_cell? _ _ c2)).trans c2))
      go_wp2
      go_ret2
      exact ⟨rfl, b4.trans (b5'.mono b4.size)⟩
    · have z0 : (ye == 0) = false := beq_eq_false_iff_ne.2 ye0
      have z1 : (ye != 0) = true := by simp [ye0]
      rw [if_pos ye0]
      clear ye0 hB
      go_enter Try.func24, Try.ntmps24
      go_wp2_with (first
        | (go_at_call 17; refine htop'.mono ?_; rintro e w1 ⟨sl, rfl, hk1, b1⟩; obtain ⟨a1, rfl⟩ := hk1.form; obtain ⟨g, rfl, hcell⟩ := hk1.at (j := 0) (by simp); have hcell1 := hk1.cell1; have b2 := b1.alloc b1.size (.cells #[.int .i64 5, .int .i64 0, .string s, .slice (some ⟨g, 0, none⟩) 2 2] 51); have c0 := (((Below.refl w1.heap.size w1).alloc (Nat.le_refl _) (.cells #[.int .i64 5, .int .i64 0, .string s, .slice (some ⟨g, 0, none⟩) 2 2] 51)).cell (p := ⟨g, 0, none⟩) (World.block_lt_of_cell? w1 _ hcell)).trans hcell; simp only [List.getElem_cons_zero] at c0; have hA := At4.new w1 (.int .i64 5) (.int .i64 0) (.string s) (.slice (some ⟨g, 0, none⟩) 2 2) 51; have hI' := hI _ b2; clear hcell hk1 htop'; have c1 := (((Below.refl w1.heap.size w1).alloc (Nat.le_refl _) (.cells #[.int .i64 5, .int .i64 0, .string s, .slice (some ⟨g, 0, none⟩) 2 2] 51)).cell (p := ⟨g, 1, none⟩) (World.block_lt_of_cell? w1 _ hcell1)).trans hcell1; clear hcell1)
        | (go_at_call 24; refine hI'.mono ?_; rintro e w2 ⟨rfl, b3⟩; have hA2 := hA.keepB b3 (by simp); obtain ⟨y0, y1, y2, y3⟩ := id hA2; have b4 := b2.trans (b3.mono b2.size); clear hI' hI))
      go_ret2
      exact ⟨rfl, b4⟩
  · unfold none0 at hs
    rw [sdC_mk] at hs
    simp at hs
theorem val_any : ∀ (d : Nat), ValC d
  | 0 => fun _ t => Empty.elim t
  | d + 1 => val_step d (val_any d)

theorem evalP : EvalP := by
  intro d t vs vv w hc hn hs hv hl
  have h1 := formedP d t w hc hn hs
  unfold evX
  obtain ⟨x, hx⟩ : ∃ x, exV d t = x := ⟨_, rfl⟩
  by_cases hf : fmC d t = true
  · have hsd : sdC d t = true := by unfold fmC at hf; simp only [Bool.and_eq_true] at hf; exact hf.2
    have h2 := fun w1 (b : Below w.heap.size w w1) => val_any d vs t vv w1 hc hsd (hv.below b (Nat.le_refl _)) hl
    rw [if_pos hf]
    obtain ⟨⟨y, ye⟩, hy⟩ : ∃ y, evC vs d t = y := ⟨_, rfl⟩
    simp only [hy, hx] at h2
    rw [hf, hx] at h1
    rw [hy, hx]
    unfold pr2 at h2
    simp only at h2
    clear hc hn hs hv hf hsd hy hx
    go_enter Try.func15, Try.ntmps15
    go_wp2_with (first
      | (go_at_call 14; refine h1.mono ?_; rintro e w1 ⟨rfl, b1⟩; have h2' := h2 _ b1)
      | (go_at_call 24; refine h2'.mono ?_; rintro e w2 ⟨rfl, b2⟩))
    go_ret2
    exact ⟨rfl, bthen b1 b2⟩
  · have hf' : fmC d t = false := by simpa using hf
    rw [if_neg hf]
    rw [hf', hx] at h1
    rw [hx]
    clear hc hn hs hv hf hx hf'
    go_enter Try.func15, Try.ntmps15
    go_wp2_with (first
      | (go_at_call 14; refine h1.mono ?_; rintro e w1 ⟨rfl, b1⟩))
    go_ret2
    exact ⟨rfl, b1⟩
end Go.Proofs.Ytjbfhpgiobddoaa
