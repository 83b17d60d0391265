
/- What the program's leafOf does. -/
import Derived.Test.YtiddccohldjjcaaDoorPgE
namespace Go.Proofs.YtiddccohldjjcaaDoor
open Go.RowKit Go.Lib
set_option linter.unusedSimpArgs false
set_option linter.unusedVariables false
attribute [local go_sem ↓] Go.wp_at_zero Go.wp_at_succ

theorem own_one {w : World} {base e : Nat} {v : Value} {x : Wd} (h : OwnW w base e v [x]) : ∃ g cap, v = .slice (some ⟨g, 0, none⟩) 1 cap ∧ base ≤ g ∧ g < w.heap.size ∧ w.cell? ⟨g, 0, none⟩ = some (.int .i64 (x.1 : Int)) ∧ w.cell? ⟨g, 1, none⟩ = some (.string (txt x.2.1)) := by
  have hc := fun g => World.ownsRow.cells h (g := g)
  rcases h.2 with ⟨_, hn⟩ | ⟨g, cap, cur, rfl, hb, hg, _⟩
  · simp at hn
  · have c0 := hc g rfl 0 (.int .i64 (x.1 : Int)) rfl
    have c1 := hc g rfl 1 (.string (txt x.2.1)) rfl
    rw [addr_plain] at c0 c1
    exact ⟨g, cap, rfl, hb, (Array.getElem?_eq_some_iff.1 hg).1, c0, c1⟩
theorem bl_txt (seg : List Ru) : bl (txt seg) = byt seg := rfl
set_option maxRecDepth 100000 in
set_option maxHeartbeats 4000000 in
theorem leafOf_any {K : Nat} {seg : List Ru} (h : OneW K seg) (ln co : Int) (w : World) (hK : K ≠ 3) :
    Calls Tryd.prog 61 #[.agg #[.int .i64 (K : Int), .string (txt seg), .int .i64 ln, .int .i64 co]] w fun e w' =>
      e = .returned (match leafY (valB 0) rsvB (K, byt seg) with | some x => .tuple #[exX x, .bool true] | none => .tuple #[.nilIface, .bool false]) ∧ Below w.heap.size w w' := by
  have hW := fun w1 => pWords_any (txt seg) w1 (by have := h.l; rw [← bl_length, bl_txt]; omega)
  simp only [bl_txt, h.words] at hW
  have hP := pParseInt_any (txt seg)
  have hR := fun w1 => pReserved_any (txt seg) w1
  have hkind := h.kind
  rw [bl_txt] at hP hR
  have hq0 : Below w.heap.size w (w.alloc (.cells #[.int .i64 (K : Int), .string (txt seg), .int .i64 ln, .int .i64 co] 43)) := (Below.refl _ _).alloc (Nat.le_refl _) _
  have hA0 := At4.new w (.int .i64 (K : Int)) (.string (txt seg)) (.int .i64 ln) (.int .i64 co) 43
  obtain ⟨tx, htx⟩ : ∃ tx, txt seg = tx := ⟨_, rfl⟩
  simp only [htx] at hW hP hR hq0 hA0 ⊢
  have hbeq : (tx.toList != tx.toList) = false := by simp
  have drN : ∀ (wx : World) (m : Nat), Below w.heap.size w wx → Below w.heap.size w (wx.drewN m) := fun wx m hx => hx.trans (below_draws _ _ m)
  rcases hkind with ⟨rfl, hn⟩ | ⟨rfl, hn⟩ | ⟨rfl, _⟩
  · obtain ⟨y0, y1, y2, y3⟩ := id hA0
    obtain ⟨rb, hrb⟩ : ∃ rb, rsvB (byt seg) = rb := ⟨_, rfl⟩
    have hv : leafY (valB 0) rsvB (1, byt seg) = if rb = false then some (mk0 2 0 ⟨(byt seg).toArray⟩) else none := by
      unfold leafY
      rw [if_neg (by show ¬ 1 = 2; decide), hrb]
      cases rb <;> rfl
    rw [hv]
    have hex : ∀ x, (⟨(byt seg).toArray⟩ : ByteArray) = x → exX (mk0 2 0 ⟨(byt seg).toArray⟩) = .iface 57 (.agg #[.string x]) := fun x hx => by rw [hx]; exact exX_ref x
    have hex := hex tx htx
    rw [hrb] at hR
    clear hv hn hrb
    cases rb with
    | false =>
      rw [if_pos rfl]
      simp only [hex]
      go_enter Tryd.func61, Tryd.ntmps61
      go_wp2_with (first
        | (go_at_call 15; refine (hW _).mono ?_; rintro e w1 ⟨u, rfl, hown, b1⟩; obtain ⟨g, cap, rfl, q1, q2, c0, c1⟩ := own_one hown; have hA1 := hA0.keepB b1 (by simp); have hb1 := hq0.trans (b1.mono hq0.size); have hB2 := (Below.refl w1.heap.size w1).alloc (Nat.le_refl _) (.cells #[.int .i64 0, .int .i64 0] 38); have d0 : (w1.alloc (.cells #[.int .i64 0, .int .i64 0] 38)).cell? ⟨g, 0, none⟩ = some (.int .i64 1) := (hB2.cell (p := ⟨g, 0, none⟩) q2).trans c0; have d1 : (w1.alloc (.cells #[.int .i64 0, .int .i64 0] 38)).cell? ⟨g, 1, none⟩ = some (.string tx) := ((hB2.cell (p := ⟨g, 1, none⟩) q2).trans c1).trans (congrArg (fun z => some (Value.string z)) htx); have hA2 := hA1.keepB hB2 (World.block_lt_of_cell? w1 _ hA1.1); have hb2 := hb1.trans (hB2.mono hb1.size); obtain ⟨z0, z1, z2, z3⟩ := id hA2; clear hA1 hA0 hB2 c0 c1 hown b1 hb1 hW hq0 y0 y1 y2 y3))
      generalize w1.alloc (.cells #[.int .i64 0, .int .i64 0] 38) = w2 at *
      go_quiet (fail)
      go_wp2_with (first
        | (go_at_call 69; refine (hR _).mono ?_; rintro e w3 ⟨rfl, rfl⟩))
      go_ret2
      exact ⟨rfl, drN _ _ hb2⟩
    | true =>
      rw [if_neg (by decide)]
      simp only
      go_enter Tryd.func61, Tryd.ntmps61
      go_wp2_with (first
        | (go_at_call 15; refine (hW _).mono ?_; rintro e w1 ⟨u, rfl, hown, b1⟩; obtain ⟨g, cap, rfl, q1, q2, c0, c1⟩ := own_one hown; have hA1 := hA0.keepB b1 (by simp); have hb1 := hq0.trans (b1.mono hq0.size); have hB2 := (Below.refl w1.heap.size w1).alloc (Nat.le_refl _) (.cells #[.int .i64 0, .int .i64 0] 38); have d0 : (w1.alloc (.cells #[.int .i64 0, .int .i64 0] 38)).cell? ⟨g, 0, none⟩ = some (.int .i64 1) := (hB2.cell (p := ⟨g, 0, none⟩) q2).trans c0; have d1 : (w1.alloc (.cells #[.int .i64 0, .int .i64 0] 38)).cell? ⟨g, 1, none⟩ = some (.string tx) := ((hB2.cell (p := ⟨g, 1, none⟩) q2).trans c1).trans (congrArg (fun z => some (Value.string z)) htx); have hA2 := hA1.keepB hB2 (World.block_lt_of_cell? w1 _ hA1.1); have hb2 := hb1.trans (hB2.mono hb1.size); obtain ⟨z0, z1, z2, z3⟩ := id hA2; clear hA1 hA0 hB2 c0 c1 hown b1 hb1 hW hq0 y0 y1 y2 y3))
      generalize w1.alloc (.cells #[.int .i64 0, .int .i64 0] 38) = w2 at *
      go_quiet (fail)
      go_wp2_with (first
        | (go_at_call 69; refine (hR _).mono ?_; rintro e w3 ⟨rfl, rfl⟩))
      go_ret2
      exact ⟨rfl, drN _ _ hb2⟩
  · have hv : leafY (valB 0) rsvB (2, byt seg) = some (mk0 1 (valB 0 (byt seg)) ⟨#[]⟩) := by unfold leafY; rw [if_pos rfl]
    rw [hv]
    simp only [exX_lit]
    have hP1 := hP hn
    obtain ⟨vb, hvb⟩ : ∃ vb, valB 0 (byt seg) = vb := ⟨_, rfl⟩
    rw [hvb] at hP1 ⊢
    clear hv hn hP hvb
    obtain ⟨y0, y1, y2, y3⟩ := id hA0
    go_enter Tryd.func61, Tryd.ntmps61
    go_wp2_with (first
      | (go_at_call 15; refine (hW _).mono ?_; rintro e w1 ⟨u, rfl, hown, b1⟩; obtain ⟨g, cap, rfl, q1, q2, c0, c1⟩ := own_one hown; have hA1 := hA0.keepB b1 (by simp); have hb1 := hq0.trans (b1.mono hq0.size); have hB2 := (Below.refl w1.heap.size w1).alloc (Nat.le_refl _) (.cells #[.int .i64 0, .int .i64 0] 38); have d0 : (w1.alloc (.cells #[.int .i64 0, .int .i64 0] 38)).cell? ⟨g, 0, none⟩ = some (.int .i64 2) := (hB2.cell (p := ⟨g, 0, none⟩) q2).trans c0; have d1 : (w1.alloc (.cells #[.int .i64 0, .int .i64 0] 38)).cell? ⟨g, 1, none⟩ = some (.string tx) := ((hB2.cell (p := ⟨g, 1, none⟩) q2).trans c1).trans (congrArg (fun z => some (Value.string z)) htx); have hA2 := hA1.keepB hB2 (World.block_lt_of_cell? w1 _ hA1.1); have hb2 := hb1.trans (hB2.mono hb1.size); obtain ⟨z0, z1, z2, z3⟩ := id hA2; clear hA1 hA0 hB2 c0 c1 hown b1 hb1 hW hq0 y0 y1 y2 y3))
    generalize w1.alloc (.cells #[.int .i64 0, .int .i64 0] 38) = w2 at *
    go_quiet (fail)
    go_wp2_with (first
      | (go_at_call 70; refine (hP1 _).mono ?_; rintro e w3 ⟨rfl, b3⟩; have hb3 := (drN _ _ hb2).trans (b3.mono (drN _ _ hb2).size)))
    go_region
    all_goals go_wp2
    all_goals go_ret2
    all_goals exact ⟨rfl, hb3.drew⟩
  · exact absurd rfl hK
end Go.Proofs.YtiddccohldjjcaaDoor
