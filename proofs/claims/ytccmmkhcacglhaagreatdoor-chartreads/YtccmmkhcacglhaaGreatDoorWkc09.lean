import Derived.Test.YtccmmkhcacglhaaGreatDoorWkc08
import Derived.Test.YtccmmkhcacglhaaGreatDoorRows
import Derived.Test.YtccmmkhcacglhaaGreatDoorWkc02
import Derived.Test.YtccmmkhcacglhaaGreatDoorWkc07

/- What the program's leafOf does. -/
namespace Go.Proofs.YtccmmkhcacglhaaGreatDoor
open Go.RowKit Go.Lib
set_option linter.unusedSimpArgs false
set_option linter.unusedVariables false
attribute [local go_sem ↓] Go.wp_at_zero Go.wp_at_succ

theorem own_one {w : World} {base e : Nat} {v : Value} {x : Wd} (h : OwnW w base e v [x]) : ∃ g cap, v = .slice (some ⟨g, 0, none⟩) 1 cap ∧ base ≤ g ∧ g < w.heap.size ∧ w.cell? ⟨g, 0, none⟩ = some (.int .i64 (x.1 : Int)) ∧ w.cell? ⟨g, 1, none⟩ = some (.string (txt x.2.1)) := by
  have hc := fun g => World.ownsRow.cells h (g := g)
  rcases h.2 with ⟨_, hn⟩ | ⟨g, cap, cur, rfl, hb, hg, _⟩
  · simp at hn
  · have c0 := hc g rfl 0 (.int .i64 (x.1 : Int)) rfl
    have c1 := hc g rfl 1 (.string (txt x.2.1)) rfl
    rw [addr_plain] at c0 c1
    exact ⟨g, cap, rfl, hb, (Array.getElem?_eq_some_iff.1 hg).1, c0, c1⟩
theorem bl_txt (seg : List Ru) : bl (txt seg) = byt seg := rfl
set_option maxRecDepth 100000 in
set_option maxHeartbeats 4000000 in
theorem leafOf_any {K : Nat} {seg : List Ru} (h : OneW K seg) (ln co : Int) (w : World) (hK : K ≠ 3) :
    Calls Tryz.prog 224 #[.agg #[.int .i64 (K : Int), .string (txt seg), .int .i64 ln, .int .i64 co]] w fun e w' =>
      e = .returned (match leafY (valB 0) rsvB (K, byt seg) with | some x => .tuple #[exX x, .bool true] | none => .tuple #[.nilIface, .bool false]) ∧ Below w.heap.size w w' := by
  have hW := fun w1 => pWords_any (txt seg) w1 (by have := h.l; rw [← bl_length, bl_txt]; omega)
  simp only [bl_txt, h.words] at hW
  have hP := pParseInt_any (txt seg)
  have hR := fun w1 => pReserved_any (txt seg) w1
  have hkind := h.kind
  rw [bl_txt] at hP hR
  have hq0 : Below w.heap.size w (w.alloc (.cells #[.int .i64 (K : Int), .string (txt seg), .int .i64 ln, .int .i64 co] 61)) := (Below.refl _ _).alloc (Nat.le_refl _) _
  have hA0 := At4.new w (.int .i64 (K : Int)) (.string (txt seg)) (.int .i64 ln) (.int .i64 co) 61
  obtain ⟨tx, htx⟩ : ∃ tx, txt seg = tx := ⟨_, rfl⟩
  simp only [htx] at hW hP hR hq0 hA0 ⊢
  have hbeq : (tx.toList != tx.toList) = false := by simp
  have drN : ∀ (wx : World) (m : Nat), Below w.heap.size w wx → Below w.heap.size w (wx.drewN m) := fun wx m hx => hx.trans (below_draws _ _ m)
  rcases hkind with ⟨rfl, hn⟩ | ⟨rfl, hn⟩ | ⟨rfl, _⟩
  · obtain ⟨y0, y1, y2, y3⟩ := id hA0
    obtain ⟨rb, hrb⟩ : ∃ rb, rsvB (byt seg) = rb := ⟨_, rfl⟩
    have hv : leafY (valB 0) rsvB (1, byt seg) = if rb = false then some (mk0 2 0 ⟨(byt seg).toArray⟩) else none := by
      unfold leafY
      rw [if_neg (by show ¬ 1 = 2; decide), hrb]
      cases rb <;> rfl
    rw [hv]
    have hex : ∀ x, (⟨(byt seg).toArray⟩ : ByteArray) = x → exX (mk0 2 0 ⟨(byt seg).toArray⟩) = .iface 180 (.agg #[.string x]) := fun x hx => by rw [hx]; exact exX_ref x
    have hex := hex tx htx
    rw [hrb] at hR
    clear hv hn hrb
    cases rb with
    | false =>
      rw [if_pos rfl]
      simp only [hex]
      go_enter Tryz.func224, Tryz.ntmps224
      go_wp2_with (first
        | (go_at_call 25; refine (hW _).mono ?_; rintro e w1 ⟨u, rfl, hown, b1⟩; obtain ⟨g, cap, rfl, q1, q2, c0, c1⟩ := own_one hown; have hA1 := hA0.keepB b1 (by simp); have hb1 := hq0.trans (b1.mono hq0.size); have hB2 := (Below.refl w1.heap.size w1).alloc (Nat.le_refl _) (.cells #[.int .i64 0, .int .i64 0] 24); have d0 : (w1.alloc (.cells #[.int .i64 0, .int .i64 0] 24)).cell? ⟨g, 0, none⟩ = some (.int .i64 1) := (hB2.cell (p := ⟨g, 0, none⟩) q2).trans c0; have d1 : (w1.alloc (.cells #[.int .i64 0, .int .i64 0] 24)).cell? ⟨g, 1, none⟩ = some (.string tx) := ((hB2.cell (p := ⟨g, 1, none⟩) q2).trans c1).trans (congrArg (fun z => some (Value.string z)) htx); have hA2 := hA1.keepB hB2 (World.block_lt_of_cell? w1 _ hA1.1); have hb2 := hb1.trans (hB2.mono hb1.size); obtain ⟨z0, z1, z2, z3⟩ := id hA2; clear hA1 hA0 hB2 c0 c1 hown b1 hb1 hW hq0 y0 y1 y2 y3))
      generalize w1.alloc (.cells #[.int .i64 0, .int .i64 0] 24) = w2 at *
      go_quiet (fail)
      go_wp2_with (first
        | (go_at_call 96; refine (hR _).mono ?_; rintro e w3 ⟨rfl, rfl⟩))
      go_ret2
      exact ⟨rfl, drN _ _ hb2⟩
    | true =>
      rw [if_neg (by decide)]
      simp only
      go_enter Tryz.func224, Tryz.ntmps224
      go_wp2_with (first
        | (go_at_call 25; refine (hW _).mono ?_; rintro e w1 ⟨u, rfl, hown, b1⟩; obtain ⟨g, cap, rfl, q1, q2, c0, c1⟩ := own_one hown; have hA1 := hA0.keepB b1 (by simp); have hb1 := hq0.trans (b1.mono hq0.size); have hB2 := (Below.refl w1.heap.size w1).alloc (Nat.le_refl _) (.cells #[.int .i64 0, .int .i64 0] 24); have d0 : (w1.alloc (.cells #[.int .i64 0, .int .i64 0] 24)).cell? ⟨g, 0, none⟩ = some (.int .i64 1) := (hB2.cell (p := ⟨g, 0, none⟩) q2).trans c0; have d1 : (w1.alloc (.cells #[.int .i64 0, .int .i64 0] 24)).cell? ⟨g, 1, none⟩ = some (.string tx) := ((hB2.cell (p := ⟨g, 1, none⟩) q2).trans c1).trans (congrArg (fun z => some (Value.string z)) htx); have hA2 := hA1.keepB hB2 (World.block_lt_of_cell? w1 _ hA1.1); have hb2 := hb1.trans (hB2.mono hb1.size); obtain ⟨z0, z1, z2, z3⟩ := id hA2; clear hA1 hA0 hB2 c0 c1 hown b1 hb1 hW hq0 y0 y1 y2 y3))
      generalize w1.alloc (.cells #[.int .i64 0, .int .i64 0] 24) = w2 at *
      go_quiet (fail)
      go_wp2_with (first
        | (go_at_call 96; refine (hR _).mono ?_; rintro e w3 ⟨rfl, rfl⟩))
      go_ret2
      exact ⟨rfl, drN _ _ hb2⟩
  · have hv : leafY (valB 0) rsvB (2, byt seg) = some (mk0 1 (valB 0 (byt seg)) ⟨#[]⟩) := by unfold leafY; rw [if_pos rfl]
    rw [hv]
    simp only [exX_lit]
    have hP1 := hP hn
    obtain ⟨vb, hvb⟩ : ∃ vb, valB 0 (byt seg) = vb := ⟨_, rfl⟩
    rw [hvb] at hP1 ⊢
    clear hv hn hP hvb
    obtain ⟨y0, y1, y2, y3⟩ := id hA0
    go_enter Tryz.func224, Tryz.ntmps224
    go_wp2_with (first
      | (go_at_call 25; refine (hW _).mono ?_; rintro e w1 ⟨u, rfl, hown, b1⟩; obtain ⟨g, cap, rfl, q1, q2, c0, c1⟩ := own_one hown; have hA1 := hA0.keepB b1 (by simp); have hb1 := hq0.trans (b1.mono hq0.size); have hB2 := (Below.refl w1.heap.size w1).alloc (Nat.le_refl _) (.cells #[.int .i64 0, .int .i64 0] 24); have d0 : (w1.alloc (.cells #[.int .i64 0, .int .i64 0] 24)).cell? ⟨g, 0, none⟩ = some (.int .i64 2) := (hB2.cell (p := ⟨g, 0, none⟩) q2).trans c0; have d1 : (w1.alloc (.cells #[.int .i64 0, .int .i64 0] 24)).cell? ⟨g, 1, none⟩ = some (.string tx) := ((hB2.cell (p := ⟨g, 1, none⟩) q2).trans c1).trans (congrArg (fun z => some (Value.string z)) htx); have hA2 := hA1.keepB hB2 (World.block_lt_of_cell? w1 _ hA1.1); have hb2 := hb1.trans (hB2.mono hb1.size); obtain ⟨z0, z1, z2, z3⟩ := id hA2; clear hA1 hA0 hB2 c0 c1 hown b1 hb1 hW hq0 y0 y1 y2 y3))
    generalize w1.alloc (.cells #[.int .i64 0, .int .i64 0] 24) = w2 at *
    go_quiet (fail)
    go_wp2_with (first
      | (go_at_call 237; refine (hP1 _).mono ?_; rintro e w3 ⟨rfl, b3⟩; have hb3 := (drN _ _ hb2).trans (b3.mono (drN _ _ hb2).size)))
    go_region
    all_goals go_wp2
    all_goals go_ret2
    all_goals exact ⟨rfl, hb3.drew⟩
  · exact absurd rfl hK
end Go.Proofs.YtccmmkhcacglhaaGreatDoor

/- What the program's takesAhead does. -/
namespace Go.Proofs.YtccmmkhcacglhaaGreatDoor
open Go.RowKit Go.Lib
set_option linter.unusedSimpArgs false
set_option linter.unusedVariables false
attribute [local go_sem ↓] Go.wp_at_zero Go.wp_at_succ

/-- A word in memory, as a value. -/
abbrev wdV (K : Nat) (seg : List Ru) (ln co : Int) : Value := .agg #[.int .i64 (K : Int), .string (txt seg), .int .i64 ln, .int .i64 co]
theorem src_expr {P : Program} {t e : TypeId} (ht : P.underlying t = some (.slice e)) (w : World) (v : Value) (hv : v = .nilIface ∨ ∃ u y, v = .iface u y) :
    Src P 1 t (.slice (some ⟨w.heap.size, 0, none⟩) 1 1) 1 [v] (w.alloc (.cells #[v] e)) := by
  have h := World.ownsRow_lit (base := w.heap.size) (e := e) (size := 1) w #[v] 1 (Nat.le_refl _) (by simp [maxLen]) (by simp)
  refine Src.ofSlice _ ht _ 1 1 _ (by simp) (by simpa using h.cells (g := w.heap.size) rfl) (fun u hu => ?_)
  simp only [List.mem_singleton] at hu
  rcases hv with rfl | ⟨u', y', rfl⟩ <;> subst hu <;> rfl
theorem leaf_form {w : Tk} {x : Sx} (h : leafY (valB 0) rsvB w = some x) : ∃ u y, exX x = .iface u y := by
  unfold leafY at h
  split at h
  · obtain rfl := Option.some.inj h; exact ⟨_, _, exX_lit _⟩
  · split at h
    · obtain rfl := Option.some.inj h; exact ⟨_, _, exX_ref _⟩
    · cases h
set_option maxRecDepth 100000 in
set_option maxHeartbeats 4000000 in
theorem ahead_leaf {w : World} {X K : Nat} {seg : List Ru} {V : List Sx} {W : List Sg2} {o : Nat} {vv ww : Value} (h : Rdr w X ⟨V, W, o, false⟩ vv ww) (h1 : OneW K seg) (ln co : Int) (hK : K ≠ 3) (hl : V.length ≤ 3001) {x : Sx} (hx : leafY (valB 0) rsvB (K, byt seg) = some x) :
    Calls Tryz.prog 212 #[.pointer (some ⟨X, 0, none⟩), wdV K seg ln co] w fun e w' => e = .returned (.bool true) ∧ (∃ vv' ww', Rdr w' X ⟨x :: V, W, o, true⟩ vv' ww') ∧ Below X w w' := by
  obtain ⟨i0, hi, hz0, hz1, hz2⟩ := info_parts Tryz.infoE
  have hL := fun w1 => leafOf_any h1 ln co w1 hK
  rw [hx] at hL
  simp only at hL
  have hxf : ∃ u y, exX x = .iface u y := leaf_form hx
  obtain ⟨xv, hxv⟩ : ∃ xv, exX x = xv := ⟨_, rfl⟩
  simp only [hxv] at hL hxf
  obtain ⟨a, cap, rfl, hcap⟩ := own_form h.v
  simp only at h
  obtain ⟨tx, htx⟩ : ∃ tx, txt seg = tx := ⟨_, rfl⟩
  unfold wdV
  simp only [htx] at hL ⊢
  have hq0 : Below w.heap.size w (w.alloc (.cells #[.int .i64 (K : Int), .string tx, .int .i64 ln, .int .i64 co] 61)) := (Below.refl _ _).alloc (Nat.le_refl _) _
  have hA0 := At4.new w (.int .i64 (K : Int)) (.string tx) (.int .i64 ln) (.int .i64 co) 61
  obtain ⟨y0, y1, y2, y3⟩ := id hA0
  have k3 : ((K : Int) != 3) = true := by simp; omega
  clear h1 hx htx
  obtain ⟨xu, xy, rfl⟩ := hxf
  · go_enter Tryz.func212, Tryz.ntmps212
    go_wp2_with (first
      | (go_at_call 224; refine (hL _).mono ?_; rintro e w1 ⟨rfl, b1⟩; have hb1 := hq0.trans (b1.mono hq0.size); have hr1 := h.on hb1; obtain ⟨z0, z1, z2, z3, g0, g1, g2, g3⟩ := id hr1.b)
      | (at_builtin; refine wpList_append_at _ rfl (.tmp 20) (.tmp 22) 212 212 rfl (X + 1) 139 i0 .nilIface 1 16 Tryz.underlying212 hi hz0 hz1 hz2 rfl _ V.length _ rfl (World.ownsRow.alloc hr1.v _) _ 1 [.iface xu xy] rfl (src_expr Tryz.underlying212 w1 _ (.inr ⟨_, _, rfl⟩)) 1 (.inr (by omega)) (Nat.le_refl _) (by unfold maxLen; omega) (by simp; have := hr1.lt; omega) ?_; intro v4 w4 ho6 hg4 hat; obtain ⟨a4, cap4, rfl, hc4⟩ := own_form ho6; have hr4 := hr1.on ((Below.refl _ w1).alloc (Nat.le_refl _) (.cells #[.iface xu xy] 139)); have hb4 : Below (X + 1) (w1.alloc (.cells #[.iface xu xy] 139)) w4 := (Below.refl _ _).grown hg4 (by simp; have := hr1.lt; omega) (fun k hk => (World.ownsRow.lt hr1.v k hk).1); have hB4 := hr4.b.keepB hb4 (Nat.lt_succ_self X); clear z0 z1 z2 z3 g0 g1 g2 g3; obtain ⟨z0, z1, z2, z3, g0, g1, g2, g3⟩ := id hB4))
    go_ret
    have hne : ww.ownBlock = none ∨ ww.ownBlock ≠ (Value.slice a V.length cap).ownBlock := by
      cases hq : ww.ownBlock with
      | none => exact .inl rfl
      | some g => exact .inr (fun e => h.a g e.symm hq)
    have hw4 := World.ownsRow.kept hr4.w hg4 hne
    have hbb : Below X w w4 := ((hb1.mono (Nat.le_of_lt h.lt)).alloc (Nat.le_of_lt hr1.lt) _).trans (hb4.mono (Nat.le_succ X))
    refine ⟨rfl, ⟨_, _, (hB4.set0 _).set3 _, ?_, ownsRow_setCell_below (ownsRow_setCell_below hw4 (Nat.lt_succ_self X) _) (Nat.lt_succ_self X) _, fun g hg e => ?_⟩, (hbb.setCell (Nat.le_refl X) _).setCell (Nat.le_refl X) _⟩
    · refine ownsRow_setCell_below (ownsRow_setCell_below ?_ (Nat.lt_succ_self X) _) (Nat.lt_succ_self X) _
      show World.ownsRow _ _ _ _ _ (V.length + 1) ((x :: V).reverse.map exX)
      rw [List.reverse_cons, List.map_append, List.map_singleton, hxv]
      exact ho6
    · rcases hat with q | q
      · exact h.a g (q.symm.trans hg) e
      · have hlt := (World.ownsRow.lt hr1.w g e).2
        have : some g = some (w1.alloc (.cells #[.iface xu xy] 139)).heap.size := hg.symm.trans q
        simp at this
        omega
set_option maxRecDepth 100000 in
set_option maxHeartbeats 4000000 in
theorem ahead_no {w : World} {X K : Nat} {seg : List Ru} {V : List Sx} {W : List Sg2} {o : Nat} {vv ww : Value} (h : Rdr w X ⟨V, W, o, false⟩ vv ww) (h1 : OneW K seg) (ln co : Int) (hK : K ≠ 3) (hx : leafY (valB 0) rsvB (K, byt seg) = none) :
    Calls Tryz.prog 212 #[.pointer (some ⟨X, 0, none⟩), wdV K seg ln co] w fun e w' => e = .returned (.bool false) ∧ (∃ vv' ww', Rdr w' X ⟨V, W, o, false⟩ vv' ww') ∧ Below X w w' := by
  have hL := fun w1 => leafOf_any h1 ln co w1 hK
  rw [hx] at hL
  simp only at hL
  obtain ⟨tx, htx⟩ : ∃ tx, txt seg = tx := ⟨_, rfl⟩
  unfold wdV
  simp only [htx] at hL ⊢
  have hq0 : Below w.heap.size w (w.alloc (.cells #[.int .i64 (K : Int), .string tx, .int .i64 ln, .int .i64 co] 61)) := (Below.refl _ _).alloc (Nat.le_refl _) _
  have hA0 := At4.new w (.int .i64 (K : Int)) (.string tx) (.int .i64 ln) (.int .i64 co) 61
  obtain ⟨y0, y1, y2, y3⟩ := id hA0
  have k3 : ((K : Int) != 3) = true := by simp; omega
  clear h1 hx htx
  go_enter Tryz.func212, Tryz.ntmps212
  go_wp2_with (first
    | (go_at_call 224; refine (hL _).mono ?_; rintro e w1 ⟨rfl, b1⟩; have hb1 := hq0.trans (b1.mono hq0.size); have hr1 := h.on hb1))
  go_ret
  exact ⟨rfl, ⟨_, _, hr1⟩, hb1.mono (Nat.le_of_lt h.lt)⟩
end Go.Proofs.YtccmmkhcacglhaaGreatDoor

/- What the program's takesAhead does with a sign; takesBehind. -/
namespace Go.Proofs.YtccmmkhcacglhaaGreatDoor
open Go.RowKit Go.Lib
set_option linter.unusedSimpArgs false
set_option linter.unusedVariables false
attribute [local go_sem ↓] Go.wp_at_zero Go.wp_at_succ

theorem Rdr.setO {w : World} {X : Nat} {V : List Sx} {W : List Sg2} {o : Nat} {b : Bool} {vv ww : Value} (h : Rdr w X ⟨V, W, o, b⟩ vv ww) (o' : Nat) : Rdr (w.setCell ⟨X, 2, none⟩ (.int .i64 (o' : Int))) X ⟨V, W, o', b⟩ vv ww :=
  ⟨h.b.set2 _, ownsRow_setCell_below h.v (Nat.lt_succ_self X) _, ownsRow_setCell_below h.w (Nat.lt_succ_self X) _, h.a⟩
theorem Rdr.setB {w : World} {X : Nat} {V : List Sx} {W : List Sg2} {o : Nat} {b : Bool} {vv ww : Value} (h : Rdr w X ⟨V, W, o, b⟩ vv ww) (b' : Bool) : Rdr (w.setCell ⟨X, 3, none⟩ (.bool b')) X ⟨V, W, o, b'⟩ vv ww :=
  ⟨h.b.set3 _, ownsRow_setCell_below h.v (Nat.lt_succ_self X) _, ownsRow_setCell_below h.w (Nat.lt_succ_self X) _, h.a⟩
abbrev sgV (t : List UInt8) (ln co : Int) : Value := .agg #[.int .i64 3, .string ⟨t.toArray⟩, .int .i64 ln, .int .i64 co]
set_option maxRecDepth 100000 in
set_option maxHeartbeats 4000000 in
theorem ahead_par {w : World} {X : Nat} {V : List Sx} {W : List Sg2} {o : Nat} {vv ww : Value} (h : Rdr w X ⟨V, W, o, false⟩ vv ww) (ln co : Int) (hl : W.length ≤ 3001) (ho : o ≤ 4000) :
    Calls Tryz.prog 212 #[.pointer (some ⟨X, 0, none⟩), sgV [40] ln co] w fun e w' => e = .returned (.bool true) ∧ (∃ vv' ww', Rdr w' X ⟨V, ([40], 0) :: W, o + 1, false⟩ vv' ww') ∧ Below X w w' := by
  have hX := h.lt
  have hq1 : Rdr (w.setCell ⟨X, 2, none⟩ (.int .i64 ((o : Int) + 1))) X ⟨V, W, o + 1, false⟩ vv ww := h.setO (o + 1)
  have hq0 : Below w.heap.size w (w.alloc (.cells #[.int .i64 3, .string ⟨#[40]⟩, .int .i64 ln, .int .i64 co] 61)) := (Below.refl _ _).alloc (Nat.le_refl _) _
  have hA0 := At4.new w (.int .i64 3) (.string ⟨#[40]⟩) (.int .i64 ln) (.int .i64 co) 61
  obtain ⟨y0, y1, y2, y3⟩ := id hA0
  have hr0 := h.on hq0
  obtain ⟨z0, z1, z2, z3, g0, g1, g2, g3⟩ := id hr0.b
  have i1 : IntKind.i64.wrap ((o : Int) + 1) = (o : Int) + 1 := by rw [IntKind.wrap_i64]; omega
  simp only at z2
  have hW := fun w1 (hr : Rdr w1 X ⟨V, W, o + 1, false⟩ vv ww) => wait_any hr [40] 0 (by omega) hl (by simp)
  unfold sgV
  go_enter Tryz.func212, Tryz.ntmps212
  go_wp2_with (first
    | (go_at_call 223; refine (hW _ (hq1.on ((Below.refl _ _).alloc (Nat.le_refl _) _))).mono ?_; rintro e w1 ⟨⟨u, rfl⟩, ⟨ww1, hr1⟩, b1⟩))
  go_ret
  refine ⟨rfl, ⟨_, _, hr1⟩, Below.trans (((Below.refl X w).setCell (Nat.le_refl X) _).alloc (by simp; omega) _) b1⟩
set_option maxRecDepth 100000 in
set_option maxHeartbeats 4000000 in
theorem ahead_un {w : World} {X : Nat} {V : List Sx} {W : List Sg2} {o : Nat} {vv ww : Value} (h : Rdr w X ⟨V, W, o, false⟩ vv ww) (t : List UInt8) (hu : t = [33] ∨ t = [45]) (ln co : Int) (hl : W.length ≤ 3001) :
    Calls Tryz.prog 212 #[.pointer (some ⟨X, 0, none⟩), sgV t ln co] w fun e w' => e = .returned (.bool true) ∧ (∃ vv' ww', Rdr w' X ⟨V, (t, 6) :: W, o, false⟩ vv' ww') ∧ Below X w w' := by
  have hX := h.lt
  have hW := fun w1 (hr : Rdr w1 X ⟨V, W, o, false⟩ vv ww) => wait_any hr t 6 (by omega) hl (by rcases hu with rfl | rfl <;> simp)
  have hq0 : Below w.heap.size w (w.alloc (.cells #[.int .i64 3, .string ⟨t.toArray⟩, .int .i64 ln, .int .i64 co] 61)) := (Below.refl _ _).alloc (Nat.le_refl _) _
  have hA0 := At4.new w (.int .i64 3) (.string ⟨t.toArray⟩) (.int .i64 ln) (.int .i64 co) 61
  obtain ⟨y0, y1, y2, y3⟩ := id hA0
  have hr0 := h.on hq0
  have hW0 := hW _ hr0
  unfold sgV
  rcases hu with rfl | rfl
  all_goals (
    go_enter Tryz.func212, Tryz.ntmps212
    go_wp2_with (first
      | (go_at_call 223; refine hW0.mono ?_; rintro e w1 ⟨⟨u, rfl⟩, ⟨ww1, hr1⟩, b1⟩))
    go_ret
    exact ⟨rfl, ⟨_, _, hr1⟩, (hq0.mono (Nat.le_of_lt hX)).trans b1⟩)
set_option maxRecDepth 100000 in
set_option maxHeartbeats 4000000 in
theorem ahead_sign {w : World} {X : Nat} {V : List Sx} {W : List Sg2} {o : Nat} {vv ww : Value} (h : Rdr w X ⟨V, W, o, false⟩ vv ww) (t : List UInt8) (ht : t.length ≤ 12000) (ln co : Int) (hl : W.length ≤ 3001) (ho : o ≤ 4000) :
    Calls Tryz.prog 212 #[.pointer (some ⟨X, 0, none⟩), sgV t ln co] w fun e w' => e = .returned (.bool (stA (leafY (valB 0) rsvB) ⟨V, W, o, false⟩ (3, t)).2) ∧ (∃ vv' ww', Rdr w' X (stA (leafY (valB 0) rsvB) ⟨V, W, o, false⟩ (3, t)).1 vv' ww') ∧ Below X w w' := by
  have hq0 : Below w.heap.size w (w.alloc (.cells #[.int .i64 3, .string ⟨t.toArray⟩, .int .i64 ln, .int .i64 co] 61)) := (Below.refl _ _).alloc (Nat.le_refl _) _
  have hA0 := At4.new w (.int .i64 3) (.string ⟨t.toArray⟩) (.int .i64 ln) (.int .i64 co) 61
  obtain ⟨y0, y1, y2, y3⟩ := id hA0
  have hr0 := h.on hq0
  have hX := h.lt
  obtain ⟨z0, z1, z2, z3, g0, g1, g2, g3⟩ := id hr0.b
  unfold stA sgV
  rw [if_neg (by simp)]
  by_cases h40 : t = [40]
  · subst h40
    rw [if_pos rfl]
    exact ahead_par h ln co hl ho
  · rw [if_neg h40]
    by_cases hu : t = [33] ∨ t = [45]
    · rw [if_pos hu]
      exact ahead_un h t hu ln co hl
    · rw [if_neg hu]
      have e1 : (t == [40]) = false := beq_eq_false_iff_ne.2 h40
      have e2 : (t == [33]) = false := beq_eq_false_iff_ne.2 (fun e => hu (.inl e))
      have e3 : (t == [45]) = false := beq_eq_false_iff_ne.2 (fun e => hu (.inr e))
      go_enter Tryz.func212, Tryz.ntmps212
      go_wp2
      go_ret
      exact ⟨rfl, ⟨_, _, hr0⟩, hq0.mono (Nat.le_of_lt h.lt)⟩
end Go.Proofs.YtccmmkhcacglhaaGreatDoor

/- What the program's takesBehind does. -/
namespace Go.Proofs.YtccmmkhcacglhaaGreatDoor
open Go.RowKit Go.Lib
set_option linter.unusedSimpArgs false
set_option linter.unusedVariables false
attribute [local go_sem ↓] Go.wp_at_zero Go.wp_at_succ

set_option maxRecDepth 100000 in
set_option maxHeartbeats 4000000 in
theorem behind_kind {w : World} {X K : Nat} {seg : List Ru} {y : Yd} {vv ww : Value} (h : Rdr w X y vv ww) (ln co : Int) (hK : K ≠ 3) :
    Calls Tryz.prog 211 #[.pointer (some ⟨X, 0, none⟩), wdV K seg ln co] w fun e w' => e = .returned (.bool false) ∧ (∃ vv' ww', Rdr w' X y vv' ww') ∧ Below X w w' := by
  obtain ⟨tx, htx⟩ : ∃ tx, txt seg = tx := ⟨_, rfl⟩
  unfold wdV
  rw [htx]
  have hq0 : Below w.heap.size w (w.alloc (.cells #[.int .i64 (K : Int), .string tx, .int .i64 ln, .int .i64 co] 61)) := (Below.refl _ _).alloc (Nat.le_refl _) _
  have k3 : ((K : Int) != 3) = true := by simp; omega
  go_enter Tryz.func211, Tryz.ntmps211
  go_wp2
  go_ret
  exact ⟨rfl, ⟨_, _, h.on hq0⟩, hq0.mono (Nat.le_of_lt h.lt)⟩
set_option maxRecDepth 100000 in
set_option maxHeartbeats 4000000 in
theorem behind_shut {w : World} {X : Nat} {V : List Sx} {W : List Sg2} {o : Nat} {b : Bool} {vv ww : Value} (h : Rdr w X ⟨V, W, o, b⟩ vv ww) (ln co : Int) (hob : o = brk W) (hV : V.length = bins W + 1) (hl : W.length ≤ 3001) :
    Calls Tryz.prog 211 #[.pointer (some ⟨X, 0, none⟩), sgV [41] ln co] w fun e w' => e = .returned (.bool (stB ⟨V, W, o, b⟩ (3, [41])).2) ∧ (∃ vv' ww', Rdr w' X (stB ⟨V, W, o, b⟩ (3, [41])).1 vv' ww') ∧ Below X w w' := by
  have hq0 : Below w.heap.size w (w.alloc (.cells #[.int .i64 3, .string ⟨#[41]⟩, .int .i64 ln, .int .i64 co] 61)) := (Below.refl _ _).alloc (Nat.le_refl _) _
  have hr0 := h.on hq0
  have hX := h.lt
  have hb0 := hq0.mono (Nat.le_of_lt hX)
  unfold sgV
  by_cases ho : o = 0
  · rw [stB_shut0 (by simp) rfl ho]
    subst ho
    clear hob
    have hC := closes_no hr0
    go_enter Tryz.func211, Tryz.ntmps211
    go_wp2_with (first
      | (go_at_call 221; refine hC.mono ?_; rintro e w1 ⟨rfl, rfl⟩))
    go_ret
    exact ⟨rfl, ⟨_, _, hr0⟩, hb0⟩
  · rw [stB_shut (by simp) rfl ho]
    have hC := closes_yes hr0 ho hob hV hl
    go_enter Tryz.func211, Tryz.ntmps211
    go_wp2_with (first
      | (go_at_call 221; refine hC.mono ?_; rintro e w1 ⟨rfl, ⟨vv1, ww1, hr1⟩, b1⟩))
    go_ret
    exact ⟨rfl, ⟨_, _, hr1⟩, hb0.trans b1⟩
set_option maxRecDepth 100000 in
set_option maxHeartbeats 4000000 in
theorem behind_none {w : World} {X : Nat} {y : Yd} {vv ww : Value} (h : Rdr w X y vv ww) (t : List UInt8) (ln co : Int) (h41 : ¬ t = [41]) (hv : lv t = 0) :
    Calls Tryz.prog 211 #[.pointer (some ⟨X, 0, none⟩), sgV t ln co] w fun e w' => e = .returned (.bool false) ∧ (∃ vv' ww', Rdr w' X y vv' ww') ∧ Below X w w' := by
  have hq0 : Below w.heap.size w (w.alloc (.cells #[.int .i64 3, .string ⟨t.toArray⟩, .int .i64 ln, .int .i64 co] 61)) := (Below.refl _ _).alloc (Nat.le_refl _) _
  have hL := fun w1 => pLevel_any ⟨t.toArray⟩ w1
  have e : lv (bl ⟨t.toArray⟩) = 0 := hv
  rw [e] at hL
  have e1 : (t == [41]) = false := beq_eq_false_iff_ne.2 h41
  clear e hv
  unfold sgV
  go_enter Tryz.func211, Tryz.ntmps211
  go_wp2_with (first
    | (go_at_call 220; refine (hL _).mono ?_; rintro e w1 ⟨rfl, rfl⟩))
  go_ret
  exact ⟨rfl, ⟨_, _, h.on hq0⟩, hq0.mono (Nat.le_of_lt h.lt)⟩
theorem At4.blk {w w' : World} {N : Nat} {a b c e : Value} (h : At4 w N a b c e) (hb : w'.heap[N]? = w.heap[N]?) : At4 w' N a b c e := by
  refine ⟨?_, ?_, ?_, ?_⟩
  · rw [World.cell?_of_block (w := w) (a := ⟨N, 0, none⟩) hb]; exact h.1
  · rw [World.cell?_of_block (w := w) (a := ⟨N, 1, none⟩) hb]; exact h.2.1
  · rw [World.cell?_of_block (w := w) (a := ⟨N, 2, none⟩) hb]; exact h.2.2.1
  · rw [World.cell?_of_block (w := w) (a := ⟨N, 3, none⟩) hb]; exact h.2.2.2
set_option maxRecDepth 100000 in
set_option maxHeartbeats 4000000 in
theorem behind_op {w : World} {X : Nat} {V : List Sx} {W : List Sg2} {o : Nat} {b : Bool} {vv ww : Value} (h : Rdr w X ⟨V, W, o, b⟩ vv ww) (t : List UInt8) (ln co : Int) (k : Nat) (hk : lv t = k) (hk1 : 1 ≤ k) (hV : V.length = bins W + 1) (hl : W.length ≤ 3001) :
    Calls Tryz.prog 211 #[.pointer (some ⟨X, 0, none⟩), sgV t ln co] w fun e w' => e = .returned (.bool (stB ⟨V, W, o, b⟩ (3, t)).2) ∧ (∃ vv' ww', Rdr w' X (stB ⟨V, W, o, b⟩ (3, t)).1 vv' ww') ∧ Below X w w' := by
  have hq0 : Below w.heap.size w (w.alloc (.cells #[.int .i64 3, .string ⟨t.toArray⟩, .int .i64 ln, .int .i64 co] 61)) := (Below.refl _ _).alloc (Nat.le_refl _) _
  have hr0 := h.on hq0
  have hX := h.lt
  have hb0 := hq0.mono (Nat.le_of_lt hX)
  have hA0 := At4.new w (.int .i64 3) (.string ⟨t.toArray⟩) (.int .i64 ln) (.int .i64 co) 61
  have hkeep : ∀ w1 vv1 ww1, Fr2 X vv ww (w.alloc (.cells #[.int .i64 3, .string ⟨t.toArray⟩, .int .i64 ln, .int .i64 co] 61)) w1 vv1 ww1 → At4 w1 w.heap.size (.int .i64 3) (.string ⟨t.toArray⟩) (.int .i64 ln) (.int .i64 co) := fun w1 vv1 ww1 hf =>
    hA0.blk (hf.block _ (by simp) (by omega) (fun e => by have := (World.ownsRow.lt h.v _ e).2; omega) (fun e => by have := (World.ownsRow.lt h.w _ e).2; omega))
  have hL := fun w1 => pLevel_any ⟨t.toArray⟩ w1
  have e : lv (bl ⟨t.toArray⟩) = k := hk
  rw [e] at hL
  have hk5 := lv_le t
  rw [hk] at hk5
  have e1 : (t == [41]) = false := beq_eq_false_iff_ne.2 (not41 (by omega))
  have ht := (lv_opr (s := t) (by omega)).2
  have k0 : ((k : Int) == 0) = false := beq_eq_false_iff_ne.2 (by omega)
  have i1 : IntKind.i64.wrap ((k : Int) + 1) = (k : Int) + 1 := by rw [IntKind.wrap_i64]; omega
  have hJ1 := join_any hr0 (k + 1) (by omega) (by omega) hV hl
  obtain ⟨a1, a2, a3, a4⟩ := jn_ok (k := k + 1) (by omega) W V hV
  have hjj := jn_jn (k := k) (k' := k + 1) (by omega) W V
  obtain ⟨b1, b2, b3, b4⟩ := jn_ok (k := k) (by omega) W V hV
  have hN : ∀ m : Nat, (((m + 1 : Nat)) : Int) = (m : Int) + 1 := fun m => by omega
  rw [hN] at hJ1
  have hLa := fun w1 vv1 ww1 (hr1 : Rdr w1 X ⟨(jn (k + 1) V W).1, (jn (k + 1) V W).2, o, b⟩ vv1 ww1) => last_any hr1 (by show (jn (k + 1) V W).2.length ≤ 4000; omega)
  simp only at hLa
  have hJ2 := fun w1 vv1 ww1 (hr1 : Rdr w1 X ⟨(jn (k + 1) V W).1, (jn (k + 1) V W).2, o, b⟩ vv1 ww1) => join_any hr1 k (by omega) (by omega) a1 (by omega)
  rw [hjj] at hJ2
  obtain ⟨V1, hV1⟩ : ∃ V1, (jn (k + 1) V W).1 = V1 := ⟨_, rfl⟩
  obtain ⟨W1, hW1⟩ : ∃ W1, (jn (k + 1) V W).2 = W1 := ⟨_, rfl⟩
  obtain ⟨V2, hV2⟩ : ∃ V2, (jn k V W).1 = V2 := ⟨_, rfl⟩
  obtain ⟨W2, hW2⟩ : ∃ W2, (jn k V W).2 = W2 := ⟨_, rfl⟩
  have hWt := fun w1 vv1 ww1 (hr1 : Rdr w1 X ⟨V2, W2, o, b⟩ vv1 ww1) => wait_any hr1 t k (by omega) (by rw [← hW2]; omega) (by omega)
  simp only [hV1, hW1, hV2, hW2] at hJ1 hJ2 hLa a1 a2 a3 a4
  by_cases htwo : k = 3 ∧ topL (jn (k + 1) V W).2 = 3
  · obtain ⟨h3, ht3⟩ := htwo
    subst h3
    rw [stB_two (by simp) hk ht3]
    simp only [hV1, hW1] at ht3 ⊢
    rw [ht3] at hLa
    clear hjj hV1 hW1 hV2 hW2 hWt hJ2 h hk
    unfold sgV
    go_enter Tryz.func211, Tryz.ntmps211
    go_wp2_with (first
      | (go_at_call 220; refine (hL _).mono ?_; rintro e w1 ⟨rfl, rfl⟩)
      | (go_at_call 213; refine hJ1.mono ?_; rintro e w1 ⟨⟨u, rfl⟩, ⟨vv1, ww1, hr1, hf1⟩, b1⟩)
      | (go_at_call 222; refine (hLa _ _ _ hr1).mono ?_; rintro e w2 ⟨rfl, m, rfl⟩))
    go_ret
    exact ⟨rfl, ⟨_, _, hr1.drewN m⟩, (hb0.trans b1).trans (below_draws _ _ m)⟩
  · rw [stB_op (by simp) hk hk1 htwo]
    simp only [hV1, hW1] at htwo
    simp only [hV2, hW2]
    unfold sgV
    by_cases h3 : k = 3
    · have ht3 : ((topL W1 : Int) == 3) = false := beq_eq_false_iff_ne.2 (fun e => htwo ⟨h3, by omega⟩)
      have k3 : ((k : Int) == 3) = true := by simp; omega
      clear hjj hV1 hW1 hV2 hW2 h hk htwo h3 e
      go_enter Tryz.func211, Tryz.ntmps211
      go_wp2_with (first
        | (go_at_call 223; refine (hWt _ _ _ hr3).mono ?_; rintro e w4 ⟨⟨u4, rfl⟩, ⟨ww4, hr4⟩, b4⟩; obtain ⟨z0, z1, z2, z3, g0, g1, g2, g3⟩ := id hr4.b)
        | (go_at_call 213; refine (hJ2 _ _ _ hr2).mono ?_; rintro e w3 ⟨⟨u3, rfl⟩, ⟨vv3, ww3, hr3, hf3⟩, b3⟩; obtain ⟨x0, x1, x2, x3⟩ := hkeep _ _ _ ((hf1.on (below_draws _ _ m)).trans hf3))
        | (go_at_call 222; refine (hLa _ _ _ hr1).mono ?_; rintro e w2 ⟨rfl, m, rfl⟩; have hr2 := hr1.drewN m)
        | (go_at_call 220; refine (hL _).mono ?_; rintro e w1 ⟨rfl, rfl⟩)
        | (go_at_call 213; refine hJ1.mono ?_; rintro e w1 ⟨⟨u, rfl⟩, ⟨vv1, ww1, hr1, hf1⟩, b1⟩))
      go_ret
      exact ⟨rfl, ⟨_, _, hr4.setB false⟩, ((((hb0.trans b1).trans (below_draws _ _ m)).trans b3).trans b4).setCell (Nat.le_refl X) _⟩
    · have k3 : ((k : Int) == 3) = false := beq_eq_false_iff_ne.2 (by omega)
      clear hjj hV1 hW1 hV2 hW2 h hk htwo h3 e
      go_enter Tryz.func211, Tryz.ntmps211
      go_wp2_with (first
        | (go_at_call 223; refine (hWt _ _ _ hr3).mono ?_; rintro e w4 ⟨⟨u4, rfl⟩, ⟨ww4, hr4⟩, b4⟩; obtain ⟨z0, z1, z2, z3, g0, g1, g2, g3⟩ := id hr4.b)
        | (go_at_call 213; refine (hJ2 _ _ _ hr1).mono ?_; rintro e w3 ⟨⟨u3, rfl⟩, ⟨vv3, ww3, hr3, hf3⟩, b3⟩; obtain ⟨x0, x1, x2, x3⟩ := hkeep _ _ _ (hf1.trans hf3))
        | (go_at_call 220; refine (hL _).mono ?_; rintro e w1 ⟨rfl, rfl⟩)
        | (go_at_call 213; refine hJ1.mono ?_; rintro e w1 ⟨⟨u, rfl⟩, ⟨vv1, ww1, hr1, hf1⟩, b1⟩))
      go_ret
      exact ⟨rfl, ⟨_, _, hr4.setB false⟩, (((hb0.trans b1).trans b3).trans b4).setCell (Nat.le_refl X) _⟩
end Go.Proofs.YtccmmkhcacglhaaGreatDoor

/- What the program's takes, mayEnd and end do. -/
namespace Go.Proofs.YtccmmkhcacglhaaGreatDoor
open Go.RowKit Go.Lib
set_option linter.unusedSimpArgs false
set_option linter.unusedVariables false
attribute [local go_sem ↓] Go.wp_at_zero Go.wp_at_succ

/-- What holds of the reader behind n words. -/
structure InvY (y : Yd) (n : Nat) : Prop where
  v : y.V.length = bins y.W + (if y.b = true then 1 else 0)
  o : y.o = brk y.W
  w : y.W.length ≤ n
theorem inv_start : InvY ⟨[], [], 0, false⟩ 0 := ⟨rfl, rfl, Nat.le_refl _⟩
theorem inv_step {leaf : Tk → Option Sx} {y : Yd} {n : Nat} (h : InvY y n) (w : Tk) : InvY (stp leaf y w).1 (n + 1) := by
  obtain ⟨V, W, o, b⟩ := y
  have h1 := h.v
  have h2 := h.o
  have h3 := h.w
  have hsame : InvY ⟨V, W, o, b⟩ (n + 1) := ⟨h1, h2, Nat.le_succ_of_le h3⟩
  simp only at h1 h2 h3
  unfold stp
  cases b with
  | true =>
    rw [if_pos rfl] at h1 ⊢
    by_cases hk : w.1 ≠ 3
    · rw [stB_kind hk]; exact hsame
    by_cases h41 : w.2 = [41]
    · by_cases ho : o = 0
      · rw [stB_shut0 hk h41 ho]; exact hsame
      · rw [stB_shut hk h41 ho]
        obtain ⟨a1, a2, a3, a4⟩ := jn_ok (k := 1) (by omega) W V h1
        obtain ⟨s, W', e, e1, e2⟩ := brk_top (W := (jn 1 V W).2) (by omega) a4
        refine ⟨?_, ?_, ?_⟩
        · show (jn 1 V W).1.length = bins (jn 1 V W).2.tail + _
          rw [a1, e2, e]; rfl
        · show o - 1 = brk (jn 1 V W).2.tail
          rw [e, List.tail_cons]; omega
        · show (jn 1 V W).2.tail.length ≤ n + 1
          rw [List.length_tail]; omega
    · by_cases hl : lv w.2 = 0
      · rw [stB_none hk h41 hl]; exact hsame
      · by_cases ht : lv w.2 = 3 ∧ topL (jn 4 V W).2 = 3
        · rw [stB_two hk ht.1 ht.2]
          obtain ⟨a1, a2, a3, a4⟩ := jn_ok (k := 4) (by omega) W V h1
          exact ⟨a1, h2.trans a2.symm, by show (jn 4 V W).2.length ≤ n + 1; omega⟩
        · rw [stB_op hk rfl (by omega) (fun q => ht ⟨q.1, by have := q.2; rw [q.1] at this; exact this⟩)]
          obtain ⟨a1, a2, a3, a4⟩ := jn_ok (k := lv w.2) (by omega) W V h1
          have h5 := lv_le w.2
          refine ⟨?_, ?_, by show (jn (lv w.2) V W).2.length + 1 ≤ n + 1; omega⟩
          · show (jn (lv w.2) V W).1.length = bins (jn (lv w.2) V W).2 + (if lv w.2 = 0 ∨ lv w.2 = 6 then 0 else 1) + 0
            rw [if_neg (by omega)]; exact a1
          · show o = brk (jn (lv w.2) V W).2 + (if lv w.2 = 0 then 1 else 0)
            rw [if_neg hl]; omega
  | false =>
    rw [if_neg Bool.false_ne_true] at h1 ⊢
    unfold stA
    by_cases hk : w.1 ≠ 3
    · rw [if_pos hk]
      cases leaf w with
      | some x => exact ⟨by show V.length + 1 = bins W + 1; omega, h2, Nat.le_succ_of_le h3⟩
      | none => exact hsame
    · rw [if_neg hk]
      by_cases h40 : w.2 = [40]
      · rw [if_pos h40]
        exact ⟨h1, by show o + 1 = brk W + 1; omega, by show W.length + 1 ≤ n + 1; omega⟩
      · rw [if_neg h40]
        by_cases hu : w.2 = [33] ∨ w.2 = [45]
        · rw [if_pos hu]
          exact ⟨h1, h2, by show W.length + 1 ≤ n + 1; omega⟩
        · rw [if_neg hu]; exact hsame
theorem brk_le (W : List Sg2) : brk W ≤ W.length := by
  induction W with
  | nil => exact Nat.le_refl _
  | cons x r ih => show brk r + _ ≤ r.length + 1; split <;> omega
theorem ahead_any {w : World} {X K n : Nat} {seg : List Ru} {V : List Sx} {W : List Sg2} {o : Nat} {vv ww : Value} (h : Rdr w X ⟨V, W, o, false⟩ vv ww) (hi : InvY ⟨V, W, o, false⟩ n) (hn : n ≤ 3000) (h1 : OneW K seg) (ln co : Int) :
    Calls Tryz.prog 212 #[.pointer (some ⟨X, 0, none⟩), wdV K seg ln co] w fun e w' => e = .returned (.bool (stA (leafY (valB 0) rsvB) ⟨V, W, o, false⟩ (K, byt seg)).2) ∧ (∃ vv' ww', Rdr w' X (stA (leafY (valB 0) rsvB) ⟨V, W, o, false⟩ (K, byt seg)).1 vv' ww') ∧ Below X w w' := by
  have hv := hi.v
  have ho := hi.o
  have hw := hi.w
  have hb := bins_le W
  have hbk := brk_le W
  simp only at hv ho hw
  rw [if_neg (by decide)] at hv
  by_cases hK : K = 3
  · subst hK
    exact ahead_sign h (byt seg) h1.l ln co (by omega) (by omega)
  · have e : stA (leafY (valB 0) rsvB) ⟨V, W, o, false⟩ (K, byt seg) = match leafY (valB 0) rsvB (K, byt seg) with | some x => (⟨x :: V, W, o, true⟩, true) | none => (⟨V, W, o, false⟩, false) := by
      unfold stA; rw [if_pos hK]
      cases leafY (valB 0) rsvB (K, byt seg) <;> rfl
    rw [e]
    cases hx : leafY (valB 0) rsvB (K, byt seg) with
    | some x => exact ahead_leaf h h1 ln co hK (by omega) hx
    | none => exact ahead_no h h1 ln co hK hx
theorem behind_any {w : World} {X K n : Nat} {seg : List Ru} {V : List Sx} {W : List Sg2} {o : Nat} {vv ww : Value} (h : Rdr w X ⟨V, W, o, true⟩ vv ww) (hi : InvY ⟨V, W, o, true⟩ n) (hn : n ≤ 3000) (h1 : OneW K seg) (ln co : Int) :
    Calls Tryz.prog 211 #[.pointer (some ⟨X, 0, none⟩), wdV K seg ln co] w fun e w' => e = .returned (.bool (stB ⟨V, W, o, true⟩ (K, byt seg)).2) ∧ (∃ vv' ww', Rdr w' X (stB ⟨V, W, o, true⟩ (K, byt seg)).1 vv' ww') ∧ Below X w w' := by
  have hv : V.length = bins W + 1 := hi.v
  have ho : o = brk W := hi.o
  have hw : W.length ≤ n := hi.w
  by_cases hK : K = 3
  · subst hK
    by_cases h41 : byt seg = [41]
    · have : wdV 3 seg ln co = sgV [41] ln co := by
        show Value.agg #[.int .i64 ((3 : Nat) : Int), .string ⟨(byt seg).toArray⟩, _, _] = _
        rw [h41]; rfl
      rw [this, h41]
      exact behind_shut h ln co ho hv (by omega)
    · by_cases hl : lv (byt seg) = 0
      · rw [stB_none (by simp) h41 hl]
        exact behind_none h (byt seg) ln co h41 hl
      · exact behind_op h (byt seg) ln co _ rfl (by omega) hv (by omega)
  · rw [stB_kind hK]
    exact behind_kind h ln co hK
set_option maxRecDepth 100000 in
set_option maxHeartbeats 4000000 in
theorem takes_any {w : World} {X K n : Nat} {seg : List Ru} {y : Yd} {vv ww : Value} (h : Rdr w X y vv ww) (hi : InvY y n) (hn : n ≤ 3000) (h1 : OneW K seg) (ln co : Int) :
    Calls Tryz.prog 192 #[.pointer (some ⟨X, 0, none⟩), wdV K seg ln co] w fun e w' => e = .returned (.bool (stp (leafY (valB 0) rsvB) y (K, byt seg)).2) ∧ (∃ vv' ww', Rdr w' X (stp (leafY (valB 0) rsvB) y (K, byt seg)).1 vv' ww') ∧ Below X w w' := by
  obtain ⟨V, W, o, b⟩ := y
  have hX := h.lt
  have hq0 : Below w.heap.size w (w.alloc (.cells #[.int .i64 (K : Int), .string (txt seg), .int .i64 ln, .int .i64 co] 61)) := (Below.refl _ _).alloc (Nat.le_refl _) _
  have hA0 := At4.new w (.int .i64 (K : Int)) (.string (txt seg)) (.int .i64 ln) (.int .i64 co) 61
  have hr0 := h.on hq0
  have hb0 := hq0.mono (Nat.le_of_lt hX)
  obtain ⟨y0, y1, y2, y3⟩ := id hA0
  obtain ⟨z0, z1, z2, z3, g0, g1, g2, g3⟩ := id hr0.b
  unfold stp
  cases b with
  | true =>
    rw [if_pos rfl]
    have hC := behind_any hr0 hi hn h1 ln co
    obtain ⟨r, hr⟩ : ∃ r, stB ⟨V, W, o, true⟩ (K, byt seg) = r := ⟨_, rfl⟩
    unfold wdV at hC ⊢
    rw [hr] at hC ⊢
    go_enter Tryz.func192, Tryz.ntmps192
    go_wp2_with (first
      | (go_at_call 211; refine hC.mono ?_; rintro e w1 ⟨rfl, ⟨vv1, ww1, hr1⟩, b1⟩))
    go_ret
    exact ⟨rfl, ⟨_, _, hr1⟩, hb0.trans b1⟩
  | false =>
    rw [if_neg Bool.false_ne_true]
    have hC := ahead_any hr0 hi hn h1 ln co
    obtain ⟨r, hr⟩ : ∃ r, stA (leafY (valB 0) rsvB) ⟨V, W, o, false⟩ (K, byt seg) = r := ⟨_, rfl⟩
    unfold wdV at hC ⊢
    rw [hr] at hC ⊢
    go_enter Tryz.func192, Tryz.ntmps192
    go_wp2_with (first
      | (go_at_call 212; refine hC.mono ?_; rintro e w1 ⟨rfl, ⟨vv1, ww1, hr1⟩, b1⟩))
    go_ret
    exact ⟨rfl, ⟨_, _, hr1⟩, hb0.trans b1⟩
set_option maxRecDepth 100000 in
set_option maxHeartbeats 4000000 in
theorem mayEnd_any {w : World} {X : Nat} {y : Yd} {vv ww : Value} (h : Rdr w X y vv ww) (ho : y.o ≤ 4000) :
    Calls Tryz.prog 193 #[.pointer (some ⟨X, 0, none⟩)] w fun e w' => e = .returned (.bool (y.b && decide (y.o = 0))) ∧ Below w.heap.size w w' := by
  obtain ⟨V, W, o, b⟩ := y
  obtain ⟨z0, z1, z2, z3, g0, g1, g2, g3⟩ := id h.b
  simp only at z2 z3 ho ⊢
  clear h
  cases b with
  | true =>
    by_cases hq : o = 0
    · have i1 : ((o : Int) == 0) = true := by simp; omega
      rw [decide_eq_true hq]
      clear hq
      go_enter Tryz.func193, Tryz.ntmps193
      go_wp2
      go_ret
      exact ⟨rfl, Below.refl _ _⟩
    · have i1 : ((o : Int) == 0) = false := beq_eq_false_iff_ne.2 (by omega)
      rw [decide_eq_false hq]
      clear hq
      go_enter Tryz.func193, Tryz.ntmps193
      go_wp2
      go_ret
      exact ⟨rfl, Below.refl _ _⟩
  | false =>
    rw [Bool.false_and]
    go_enter Tryz.func193, Tryz.ntmps193
    go_wp2
    go_ret
    exact ⟨rfl, Below.refl _ _⟩
/-- Where no bracket is open, all is joined. -/
theorem jn_all {V : List Sx} {W : List Sg2} (hV : V.length = bins W + 1) (hb : brk W = 0) : ∃ x, jn 1 V W = ([x], []) := by
  obtain ⟨a1, a2, a3, a4⟩ := jn_ok (k := 1) (by omega) W V hV
  have hW : (jn 1 V W).2 = [] := by
    cases hq : (jn 1 V W).2 with
    | nil => rfl
    | cons s r =>
      rw [hq] at a2 a4
      have : s.2 < 1 := a4
      have h3 : brk r + (if s.2 = 0 then 1 else 0) = brk W := a2
      rw [if_pos (by omega)] at h3
      omega
  rw [hW] at a1
  obtain ⟨x, hx⟩ : ∃ x, (jn 1 V W).1 = [x] := by
    match hq : (jn 1 V W).1, a1 with
    | [x], _ => exact ⟨x, rfl⟩
  exact ⟨x, by rw [← hx, ← hW]⟩
set_option maxRecDepth 100000 in
set_option maxHeartbeats 4000000 in
theorem end_any {w : World} {X : Nat} {V : List Sx} {W : List Sg2} {o : Nat} {b : Bool} {vv ww : Value} (h : Rdr w X ⟨V, W, o, b⟩ vv ww) (hV : V.length = bins W + 1) (hl : W.length ≤ 3001) {x : Sx} (hx : jn 1 V W = ([x], [])) :
    Calls Tryz.prog 194 #[.pointer (some ⟨X, 0, none⟩)] w fun e w' => e = .returned (exX x) ∧ Below X w w' := by
  have hJ := join_any h 1 (by omega) (by omega) hV hl
  rw [hx] at hJ
  simp only at hJ
  go_enter Tryz.func194, Tryz.ntmps194
  go_wp2_with (first
    | (go_at_call 213; refine hJ.mono ?_; rintro e w1 ⟨⟨u, rfl⟩, ⟨vv1, ww1, hr1, _⟩, b1⟩; obtain ⟨g, cap, rfl, q1, q2, q3, q4, c0, fz, _⟩ := own_last1 hr1.v; obtain ⟨z0, z1, z2, z3, g0, g1, g2, g3⟩ := id hr1.b; simp only [List.length_nil] at c0 z0))
  go_ret
  exact ⟨rfl, b1⟩
end Go.Proofs.YtccmmkhcacglhaaGreatDoor

/- What the program's operator, rightTop do. -/
namespace Go.Proofs.YtccmmkhcacglhaaGreatDoor
open Go.RowKit Go.Lib
set_option linter.unusedSimpArgs false
set_option linter.unusedVariables false
attribute [local go_sem ↓] Go.wp_at_zero Go.wp_at_succ

theorem str_is2 (s : ByteArray) (x : List UInt8) : (s.toList == x) = (bl s == x) := by rw [ByteArray.toList_eq]

set_option maxHeartbeats 1000000 in
theorem pOperator_any (s : ByteArray) (w : World) : Calls Tryz.prog 226 #[.string s] w fun e w' => e = .returned (.bool (opr s)) ∧ w = w' := by
  have hS := str_is2 s
  obtain ⟨l, hl⟩ : ∃ l, bl s = l := ⟨_, rfl⟩
  have ho : opr s = ops9.any (fun x => l == x) := by rw [← hl]; rfl
  rw [ho]
  simp only [hl] at hS
  clear hl ho
  obtain ⟨L, hL⟩ : ∃ L, s.toList = L := ⟨_, rfl⟩
  have q0 : (s.toList == [43]) = (l == [43]) := hS _
  have q1 : (s.toList == [45]) = (l == [45]) := hS _
  have q2 : (s.toList == [42]) = (l == [42]) := hS _
  have q3 : (s.toList == [60]) = (l == [60]) := hS _
  have q4 : (s.toList == [60, 61]) = (l == [60, 61]) := hS _
  have q5 : (s.toList == [61, 61]) = (l == [61, 61]) := hS _
  have q6 : (s.toList == [33, 61]) = (l == [33, 61]) := hS _
  have q7 : (s.toList == [38, 38]) = (l == [38, 38]) := hS _
  have q8 : (s.toList == [124, 124]) = (l == [124, 124]) := hS _
  clear hS hL
  simp only [ops9, List.any_cons, List.any_nil, Bool.or_false]
  cases r0 : (l == [43])
  case true => rw [r0] at q0; clear q1 q2 q3 q4 q5 q6 q7 q8; go_enter Tryz.func226, Tryz.ntmps226; go_wp2; go_ret; exact ⟨ret_bool (by simp), rfl⟩
  cases r1 : (l == [45])
  case true => rw [r0] at q0; rw [r1] at q1; clear q2 q3 q4 q5 q6 q7 q8; go_enter Tryz.func226, Tryz.ntmps226; go_wp2; go_ret; exact ⟨ret_bool (by simp), rfl⟩
  rw [r0] at q0; rw [r1] at q1
  cases r2 : (l == [42])
  case true => rw [r2] at q2; clear q3 q4 q5 q6 q7 q8; go_enter Tryz.func226, Tryz.ntmps226; go_wp2; go_ret; exact ⟨ret_bool (by simp), rfl⟩
  rw [r2] at q2
  cases r3 : (l == [60])
  case true => rw [r3] at q3; clear q4 q5 q6 q7 q8; go_enter Tryz.func226, Tryz.ntmps226; go_wp2; go_ret; exact ⟨ret_bool (by simp), rfl⟩
  rw [r3] at q3
  cases r4 : (l == [60, 61])
  case true => rw [r4] at q4; clear q5 q6 q7 q8; go_enter Tryz.func226, Tryz.ntmps226; go_wp2; go_ret; exact ⟨ret_bool (by simp), rfl⟩
  rw [r4] at q4
  cases r5 : (l == [61, 61])
  case true => rw [r5] at q5; clear q6 q7 q8; go_enter Tryz.func226, Tryz.ntmps226; go_wp2; go_ret; exact ⟨ret_bool (by simp), rfl⟩
  rw [r5] at q5
  cases r6 : (l == [33, 61])
  case true => rw [r6] at q6; clear q7 q8; go_enter Tryz.func226, Tryz.ntmps226; go_wp2; go_ret; exact ⟨ret_bool (by simp), rfl⟩
  rw [r6] at q6
  cases r7 : (l == [38, 38])
  case true => rw [r7] at q7; clear q8; go_enter Tryz.func226, Tryz.ntmps226; go_wp2; go_ret; exact ⟨ret_bool (by simp), rfl⟩
  rw [r7] at q7
  cases r8 : (l == [124, 124])
  case true => rw [r8] at q8; go_enter Tryz.func226, Tryz.ntmps226; go_wp2; go_ret; exact ⟨ret_bool (by simp), rfl⟩
  rw [r8] at q8
  go_enter Tryz.func226, Tryz.ntmps226
  go_wp2
  go_ret
  exact ⟨ret_bool (by simp), rfl⟩

/-- What an expression is by itself is right. -/
def rtC (k n : Int) (s : ByteArray) : Bool := if k = 1 then decide (0 ≤ n) && decide (n ≤ 1000000000) else if k = 2 then nameS (bl s) else if k = 3 ∨ k = 4 then true else if k = 5 then opr s else false
set_option maxRecDepth 100000 in
set_option maxHeartbeats 4000000 in
theorem rightTop_any (k n : Int) (s : ByteArray) (a : Option Addr) (m : Nat) (hs : s.size ≤ 1000) (w : World) :
    Calls Tryz.prog 217 #[.agg #[.int .i64 k, .int .i64 n, .string s, .slice a m m]] w fun e w' => e = .returned (.bool (rtC k n s)) ∧ Below w.heap.size w w' := by
  have hb : Below w.heap.size w (w.alloc (.cells #[.int .i64 k, .int .i64 n, .string s, .slice a m m] 214)) := (Below.refl _ _).alloc (Nat.le_refl _) _
  have h1 := fun w1 => pName_any s w1 (by omega)
  have h2 := fun w1 => pOperator_any s w1
  unfold rtC
  by_cases k1 : k = 1
  · subst k1
    rw [if_pos rfl]
    clear h1 h2
    by_cases c1 : 0 ≤ n
    · by_cases c2 : n ≤ 1000000000
      · rw [decide_eq_true c1, decide_eq_true c2]
        go_enter Tryz.func217, Tryz.ntmps217
        go_wp2
        go_ret
        exact ⟨rfl, hb⟩
      · rw [decide_eq_true c1, decide_eq_false c2]
        go_enter Tryz.func217, Tryz.ntmps217
        go_wp2
        go_ret
        exact ⟨rfl, hb⟩
    · rw [decide_eq_false c1, Bool.false_and]
      go_enter Tryz.func217, Tryz.ntmps217
      go_wp2
      go_ret
      exact ⟨rfl, hb⟩
  rw [if_neg k1]
  have e1 : (k == 1) = false := beq_eq_false_iff_ne.2 k1
  by_cases k2 : k = 2
  · subst k2
    rw [if_pos rfl]
    clear h2 k1 e1
    go_enter Tryz.func217, Tryz.ntmps217
    go_wp2_with (first
      | (go_at_call 95; refine (h1 _).mono ?_; rintro e w1 ⟨rfl, b1⟩))
    go_ret
    exact ⟨rfl, hb.trans (b1.mono hb.size)⟩
  rw [if_neg k2]
  have e2 : (k == 2) = false := beq_eq_false_iff_ne.2 k2
  by_cases k34 : k = 3 ∨ k = 4
  · rw [if_pos k34]
    clear h1 h2
    rcases k34 with rfl | rfl
    · go_enter Tryz.func217, Tryz.ntmps217
      go_wp2
      go_ret
      exact ⟨rfl, hb⟩
    · go_enter Tryz.func217, Tryz.ntmps217
      go_wp2
      go_ret
      exact ⟨rfl, hb⟩
  rw [if_neg k34]
  have e3 : (k == 3) = false := beq_eq_false_iff_ne.2 (by omega)
  have e4 : (k == 4) = false := beq_eq_false_iff_ne.2 (by omega)
  clear k34
  by_cases k5 : k = 5
  · subst k5
    rw [if_pos rfl]
    clear h1 k1 k2 e1 e2 e3 e4
    go_enter Tryz.func217, Tryz.ntmps217
    go_wp2_with (first
      | (go_at_call 226; refine (h2 _).mono ?_; rintro e w1 ⟨rfl, rfl⟩))
    go_ret
    exact ⟨rfl, hb⟩
  rw [if_neg k5]
  have e5 : (k == 5) = false := beq_eq_false_iff_ne.2 k5
  clear h1 h2
  go_enter Tryz.func217, Tryz.ntmps217
  go_wp2
  go_ret
  exact ⟨rfl, hb⟩
end Go.Proofs.YtccmmkhcacglhaaGreatDoor
