/- The walk of PackKeeps. -/
import Derived.Test.YtdbfblkdjijmmabTxtW
import Derived.Test.YtdbfblkdjijmmabLies
import Derived.Laws.CopyOwn
namespace Go.Proofs.Ytdbfblkdjijmmab
open Go.RowKit

/-- make([]T, L, C), an element of one cell: the whole new block. -/
theorem wpList_make_len {P : Program} (w : World) {ops : Array Oper} {rest : List Oper} {o : Oper} {a : Act} {Q : Exit → Act → World → Prop}
    (hg : o.guard = none) (l c : Operand) (t : TypeId) (hop : o.op = Op.makeSlice t l c)
    (e : TypeId) (i : TypeInfo) (z : Value) (h1 : P.underlying t = some (.slice e)) (h2 : P.info? e = some i) (h3 : i.zero = some z) (h4 : i.size = 1) (h5 : z.cells = #[z])
    (kl kc : IntKind) (Lv Cv : Int) (L C : Nat) (hl : a.eval l = .int kl Lv) (hc : a.eval c = .int kc Cv) (hL : Lv = (L : Int)) (hC : Cv = (C : Int)) (hLC : L ≤ C) (b2 : i.bytes * C ≤ 281474976710656) (b3 : C ≤ maxLen)
    (hK : ∀ w', Hid (w'.heap[w.heap.size]? = some (.cells (List.replicate C z).toArray e (0, 0))) → Below w.heap.size w w' → w.heap.size < w'.heap.size → wpList P ops Q rest (a.put o.dst (.slice (some ⟨w.heap.size, 0, none⟩) L C)) w') :
    wpList P ops Q (o :: rest) a w := by
  refine wpList_plain hg fun K hK' => ?_
  have b3' : (C : Int) ≤ 9223372036854775807 := by unfold maxLen at b3; omega
  have b2' : (i.bytes : Int) * (C : Int) ≤ 281474976710656 := by have h := Int.ofNat_le.2 b2; rw [Int.natCast_mul] at h; exact h
  have hrun := run_make (P := P) w t e i z h1 h2 h3 kl kc (L : Int) (C : Int) (by omega) (by omega) b2' b3'
  subst hL
  subst hC
  have hm : madeCells z.cells (C * i.size) = (List.replicate C z).toArray := by
    rw [h4, Nat.mul_one, h5]
    apply Array.ext'
    rw [toList_madeCells_one]
  rw [Int.toNat_natCast, Int.toNat_natCast, hm] at hrun
  unfold Oper.wp
  simp [execOp, hop, hl, hc, hrun, Result.andThen]
  exact hK' _ _ (hK _ (heap_alloc_new w _) ((Below.refl _ _).alloc (Nat.le_refl _) _) (by simp))

theorem tb_ab : (tb ⟨#[97, 98]⟩).length = 4 := by decide

/-- The room behind a copy: the bytes, then zeros. -/
theorem room_cell {w : World} {g : Nat} {bs : List Int} (h : w.heap[g]? = some (.cells (splice (List.replicate (bs.length + 20) (Value.int .u8 0)) 0 (bs.map (Value.int .u8))).toArray 5 (0, 0))) (i : Nat) (hi : i < bs.length + 20) :
    w.cell? ⟨g, i, none⟩ = some (.int .u8 (bs.getD i 0)) := by
  rw [cell_of_row w g i _ 5 (0, 0) h]
  simp only [splice, List.take_zero, List.nil_append, Nat.zero_add, List.length_map, List.getElem?_toArray]
  by_cases h1 : i < bs.length
  · rw [List.getElem?_append_left (by simpa using h1)]
    simp [List.getD, h1]
  · rw [List.getElem?_append_right (by simp; omega), List.drop_replicate, List.length_map, List.getElem?_replicate, if_pos (by omega)]
    simp [List.getD, show bs.length ≤ i by omega]

/-- copy(room, b): as many as there are. -/
theorem copy_room {P : Program} (t ty e : TypeId) (hu : P.underlying t = some (.slice e)) (hsz : (P.info? e).map (·.size) = some 1) {w1 : World} {g C cap : Nat} {a : Option Addr} {bs : List Int} (hb : Rd w1 (.slice a bs.length cap) bs)
    (hg : w1.heap[g]? = some (.cells (List.replicate (bs.length + 20) (Value.int .u8 0)).toArray 5 (0, 0))) :
    ∃ w2, (Builtin.copy_ #[t, t] ty #[.slice (some ⟨g, 0, none⟩) bs.length C, .slice a bs.length cap]).run P w1 = .ok (goInt bs.length) w2 ∧
      w2.heap[g]? = some (.cells (splice (List.replicate (bs.length + 20) (Value.int .u8 0)) 0 (bs.map (Value.int .u8))).toArray 5 (0, 0)) ∧ Below g w1 w2 := by
  by_cases h0 : bs.length = 0
  · have hbs : bs = [] := List.length_eq_zero_iff.1 h0
    subst hbs
    exact ⟨w1, run_copy_none w1 t t ty e _ a _ C _ cap hu hsz (by simp), by simpa [splice] using hg, Below.refl _ _⟩
  · obtain ⟨b, off, cap', hv, hc, hm, hcell⟩ := hb.lies (by omega)
    simp only [Value.slice.injEq] at hv
    obtain ⟨rfl, _, rfl⟩ := hv
    have hl : (bs.map (Value.int .u8)).length = bs.length := by simp
    have hrun := run_copy_row (P := P) w1 t t ty e g 0 bs.length C ⟨b, off, none⟩ bs.length cap (List.replicate (bs.length + 20) (Value.int .u8 0)).toArray 5 (bs.map (Value.int .u8)) hu hsz hg (by simp)
      (fun j u hj => by
        have hjl : j < bs.length := by
          rcases Nat.lt_or_ge j bs.length with h | h
          · exact h
          · simp [List.getElem?_eq_none h] at hj
        have hp : (⟨b, off, none⟩ : Addr).add j = ⟨b, off + j, none⟩ := by unfold Addr.add; split <;> simp_all
        rw [hp, hcell j hjl]
        simp [hjl] at hj ⊢
        exact hj) (by simp) (ints_oneCell _ _)
    rw [hl] at hrun
    refine ⟨_, hrun, ?_, below_setRow (Below.refl _ _) (Nat.le_refl _) _⟩
    rw [setRow_heap w1 g _ _ 5 _ hg]
    simp [splice]

/-- The room reads as the bytes; and behind them lie zeros. -/
theorem room_rd {w : World} {g : Nat} {bs : List Int} (h : w.heap[g]? = some (.cells (splice (List.replicate (bs.length + 20) (Value.int .u8 0)) 0 (bs.map (Value.int .u8))).toArray 5 (0, 0))) (hl : bs.length + 20 ≤ maxLen) :
    Rd w (.slice (some ⟨g, 0, none⟩) bs.length (bs.length + 20)) bs :=
  Rd.of_lies rfl (by omega) hl (fun i hi => by rw [Nat.zero_add]; exact room_cell h i (by omega))

/-- A slice of the call's own that isn't empty: where it lies, and that its first byte may be written. -/
theorem Own.first {w : World} {base : Nat} {v : Value} {xs : List Int} (h : Own w base 5 v xs) (hn : 0 < xs.length) :
    ∃ g cap x0, v = .slice (some ⟨g, 0, none⟩) xs.length cap ∧ base ≤ g ∧ g < w.heap.size ∧ w.cell? ⟨g, 0, none⟩ = some (.int .u8 x0) ∧ w.frozen? ⟨g, 0, none⟩ = false := by
  have hcell := fun g cap => World.ownsRow.cellAt (w := w) (base := base) (e := 5) (size := 1) (g := g) (n := xs.length) (cap := cap) (xs := xs.map (Value.int .u8))
  have hfr := fun g cap => World.ownsRow.frozenAt (w := w) (base := base) (e := 5) (size := 1) (g := g) (n := xs.length) (cap := cap) (xs := xs.map (Value.int .u8))
  have h0 := h
  rcases h.2 with ⟨_, h0⟩ | ⟨g, cap, cur, rfl, hbg, hg, hnc, hcm, hcs, htake⟩
  · omega
  · refine ⟨g, cap, xs[0], rfl, hbg, (Array.getElem?_eq_some_iff.1 hg).1, ?_, hfr g cap h0 0⟩
    rw [hcell g cap h0 0 (by omega)]
    simp [hn]

set_option maxHeartbeats 1000000 in
theorem packKeeps_walk {w : World} (bv : Value) (bs : List Int) (hb : Rd w bv bs) (_hy : ∀ x ∈ bs, 0 ≤ x ∧ x ≤ 255) (hl : bs.length ≤ 140737488351232) (n : Int) (_hw : (Lit.int .i64 n).wf = true) :
    Calls Try.prog 4 #[bv, .int .i64 n] w fun e w' => e = .returned (.bool true) ∧ Below w.heap.size w w' := by
  clear _hy _hw
  obtain ⟨i0, hi, hz0, hz1, hz2⟩ := info_parts Try.info5
  have hsz1 : (Try.prog.info? 5).map (·.size) = some 1 := by rw [hi]; simp [hz1]
  have hml : bs.length + 20 ≤ maxLen := by unfold maxLen; omega
  have hb0 := hb
  obtain ⟨a, cap, rfl, hc, hm, _, _⟩ := hb0
  unfold maxLen at hm
  have hnb : 0 < (bs ++ nb n).length := by rw [List.length_append, nb_length]; omega
  obtain ⟨xl, hxl⟩ : ∃ xl, (bs ++ nb n).length = xl := ⟨_, rfl⟩
  have hx0 : ((xl : Int) == 0) = false := by simp; omega
  have hxp : (0 : Int) < (xl : Int) := by omega
  have hyl : (bs ++ tb ⟨#[97, 98]⟩).length = bs.length + 4 := by rw [List.length_append, tb_ab]
  have HXL : Hid ((bs ++ nb n).length = xl) := hxl
  have HYL : Hid ((bs ++ tb ⟨#[97, 98]⟩).length = bs.length + 4) := hyl
  clear hxl hyl
  go_enter Try.func4, Try.ntmps4
  go_wp2_with (first
    | (at_make; refine wpList_make_len _ rfl (.tmp 11) (.tmp 14) 22 rfl 5 i0 (.int .u8 0) Try.underlying22 hi hz0 hz1 rfl .i64 .i64 _ _ bs.length (bs.length + 20) rfl rfl rfl (by omega) (by omega) (by rw [hz2]; omega) (by unfold maxLen; omega) ?_; intro w1 hg1 hb1 hs1; have hbw1 := hb.below hb1 (Nat.le_refl _); obtain ⟨w2, hcp, hg2, hb2⟩ := copy_room (C := bs.length + 20) 22 3 5 Try.underlying22 hsz1 hbw1 hg1.out; have hs2 := Nat.lt_of_lt_of_le hs1 hb2.size; have bel2 := hb1.trans hb2; have HG2 : Hid (w2.heap[w.heap.size]? = some (.cells (splice (List.replicate (bs.length + 20) (Value.int .u8 0)) 0 (bs.map (Value.int .u8))).toArray 5 (0, 0))) := hg2; clear hg2 hg1 hbw1 hb1 hb2 hs1)
    | (go_at_call 9; refine (number_any _ bs n _ (room_rd HG2.out hml) (by omega)).mono ?_; rintro e w3 ⟨v1, rfl, ho1, hb3⟩; obtain ⟨x, xc, x0, hv1, hxb, hxs, hxc, hxf⟩ := ho1.first hnb; rw [HXL.out] at hv1; subst hv1; clear ho1; have HG3 : Hid (w3.heap[w.heap.size]? = some (.cells (splice (List.replicate (bs.length + 20) (Value.int .u8 0)) 0 (bs.map (Value.int .u8))).toArray 5 (0, 0))) := (hb3.block _ hs2).trans HG2.out; have hs3 := Nat.lt_of_lt_of_le hs2 hb3.size; have bel3 := bel2.trans (hb3.mono (Nat.le_of_lt hs2)); clear hcp HG2 bel2 hb3)
    | (go_at_call 10; refine (text_any _ bs ⟨#[97, 98]⟩ _ (room_rd HG3.out hml) (by show bs.length + (9 + 2) ≤ _; omega)).mono ?_; rintro e w4 ⟨v2, rfl, ho2, hb4⟩; obtain ⟨ya, yc, hv2, _⟩ := ho2.rd; rw [HYL.out] at hv2; subst hv2; clear ho2; have HG4 : Hid (w4.heap[w.heap.size]? = some (.cells (splice (List.replicate (bs.length + 20) (Value.int .u8 0)) 0 (bs.map (Value.int .u8))).toArray 5 (0, 0))) := (hb4.block _ hs3).trans HG3.out; have hxc4 : w4.cell? ⟨x, 0, none⟩ = some (.int .u8 x0) := (hb4.cell (p := ⟨x, 0, none⟩) hxs).trans hxc; have hxf4 : w4.frozen? ⟨x, 0, none⟩ = false := (hb4.frozen (p := ⟨x, 0, none⟩) hxs).trans hxf; have bel4 := bel3.trans (hb4.mono (Nat.le_of_lt hs3)); clear HG3 hxc hxf bel3 hb4))
  go_loop [9] (fun i => ∃ k : Nat, bs.length ≤ k ∧ k ≤ bs.length + 20 ∧ i = .int .i64 k) (fun i => bs.length + 20 - (intOf i).toNat)
  case atStart => exact ⟨bs.length, Nat.le_refl _, by omega, rfl⟩
  case round =>
    obtain ⟨k, hk1, hk2, rfl⟩ := hrel
    by_cases hlt : k < bs.length + 20
    · have hck : w4.cell? ⟨w.heap.size, k, none⟩ = some (.int .u8 0) := by
        have := room_cell HG4.out k hlt
        rw [show bs.getD k 0 = 0 by simp [List.getD, hk1]] at this
        exact this
      go_wp2
      go_round
      case rel => exact ⟨k + 1, by omega, by omega, by go_num⟩
      case measure => simp [intOf]; omega
    · have hw5 : ∀ u, Rd (w4.setCell ⟨x, 0, none⟩ u) (.slice (some ⟨w.heap.size, 0, none⟩) bs.length (bs.length + 20)) bs := fun u => room_rd (by rw [Below.heap_setCell _ _ _ _ (by show w.heap.size ≠ x; omega)]; exact HG4.out) hml
      have hb5 : ∀ u, Below w.heap.size w (w4.setCell ⟨x, 0, none⟩ u) := fun u => bel4.setCell (by show w.heap.size ≤ x; omega) u
      have hc5 := fun u => rd_conv (hw5 u)
      have hc6 := fun u => rd_conv (hb.below (hb5 u) (Nat.le_refl _))
      go_wp2
      go_ret
      exact ⟨by simp, hb5 _⟩

end Go.Proofs.Ytdbfblkdjijmmab
