/- What the document's Read does. -/
import Derived.Test.YtdbfblkdjijmmabStep
import Derived.Test.YtdbfblkdjijmmabReadP
import Derived.Test.YtdbfblkdjijmmabRefTakeT
namespace Go.Proofs.Ytdbfblkdjijmmab
open Go.RowKit
set_option linter.unusedSimpArgs false
set_option linter.unusedVariables false
attribute [local go_sem ↓] Go.wp_at_zero Go.wp_at_succ

theorem Try.infoR : (Try.prog.info? 42).map (fun i => (i.zero, i.size, i.bytes)) = some (some (.agg #[.bool false, .int .i64 0, .string ⟨#[]⟩]), 3, 32) := by kernel_rfl

theorem slice_from (b off len cap h : Nat) (hh : h ≤ len) (w : World) :
    (Instr.slice 22 (.slice (some ⟨b, off, none⟩) len cap) (some (.int .i64 (h : Int))) none none).run Try.prog w = .ok (.slice (if cap = h then some ⟨b, off, none⟩ else some ⟨b, off + h, none⟩) (len - h) (cap - h)) w := by
  have h1 : (0 : Int) ≤ (h : Int) := by omega
  have h2 : (h : Int) ≤ (len : Int) := by omega
  go_simp

set_option maxHeartbeats 4000000 in
theorem refRead_any (v : Value) (bs : List Int) (w : World) (h : Rd w v bs) (hb : ∀ x ∈ bs, 0 ≤ x ∧ x ≤ 255) :
    Calls Try.prog 6 #[v] w fun e w' => ∃ u, e = .returned (.tuple #[u, .int .i64 (rerr (readS bs))]) ∧ OwnI w' w.heap.size 42 u ((readS bs).getD []) ∧ Below w.heap.size w w' := by
  obtain ⟨i0, hi, hz0, hz1, hz2⟩ := info_parts Try.infoR
  have h1 := refTakeNumber_any v bs w h hb
  obtain ⟨k0, k9, kl⟩ := takeN_facts bs
  obtain ⟨⟨n, k, er⟩, hx⟩ : ∃ x, x = takeN bs := ⟨_, rfl⟩
  rw [← hx] at h1 k0 k9 kl
  have HX : Hid ((n, k, er) = takeN bs) := hx
  clear hx
  dsimp only at k0 k9 kl
  by_cases hg : er = 0 ∧ 0 ≤ n ∧ n ≤ 4000
  · obtain ⟨rfl, hn0, hn4⟩ := hg
    have kl := kl rfl
    obtain ⟨b, off, cap, rfl, hc, hm, hcell⟩ := h.lies (by omega)
    obtain ⟨n, rfl⟩ := toNat_ex n (by omega)
    obtain ⟨k, rfl⟩ := toNat_ex k (by omega)
    have hn : n ≤ 4000 := by omega
    have hkl : k ≤ bs.length := by omega
    have HR : Hid (readS bs = whole (rdN n (bs.drop k))) := readS_good HX.out hn
    have hm' := hm
    unfold maxLen at hm'
    have HB : Hid (∀ x ∈ bs.drop k, 0 ≤ x ∧ x ≤ 255) := fun x hx => hb x (List.mem_of_mem_drop hx)
    obtain ⟨a1, ha1⟩ : ∃ a1 : Option Addr, (if cap = k then some (⟨b, off, none⟩ : Addr) else some ⟨b, off + k, none⟩) = a1 := ⟨_, rfl⟩
    have hrd := Rd.part rfl hcell hc hm (show k + (bs.length - k) ≤ bs.length by omega)
    rw [ha1, List.take_of_length_le (by rw [List.length_drop]; omega)] at hrd
    have hpl : (k : Int) ≤ (bs.length : Int) := by omega
    clear hcell hb HX kl k9 k0
    go_enter Try.func6, Try.ntmps6
    go_wp2_with (first
      | (go_at_call 13; refine h1.mono ?_; rintro e w1 ⟨rfl, bel1⟩))
    go_loopw [0, 7, 29] (fun u0 u i wr => ∃ (j : Nat) (rest : List Int) (l : List It), j ≤ n ∧ i = .int .i64 j ∧ Rd w u0 rest ∧ Hid (∀ x ∈ rest, 0 ≤ x ∧ x ≤ 255) ∧ Hid (l.length = j) ∧ OwnI wr w.heap.size 42 u l ∧ Hid (whole (ahead l (rdN (n - j) rest)) = readS bs) ∧ Below w.heap.size w wr) (fun _ _ i _ => n - (intOf i).toNat)
    case atStart => exact ⟨0, bs.drop k, [], by omega, rfl, hrd, HB, rfl, ownI_nil _ _ _, by show whole (ahead [] (rdN (n - 0) (bs.drop k))) = readS bs; rw [ahead_nil, Nat.sub_zero]; exact HR.out.symm, bel1⟩
    case round =>
      clear bel1 hrd HB HR h1 ha1 hpl hm hm' hc h
      obtain ⟨j, rest, l, hj, rfl, hrest, hby, hlen, ho, hinv, hbel⟩ := hrel
      by_cases hlt : j < n
      · obtain ⟨d, hd⟩ : ∃ d, n - j = d + 1 := ⟨n - j - 1, by omega⟩
        cases rest with
        | nil =>
          have hrn : Hid (readS bs = none) := by show readS bs = none; rw [← hinv.out, hd, rdN_not rfl]; rfl
          obtain ⟨a, cp, rfl, _, _, _, _⟩ := hrest
          clear hinv hd
          simp only [List.length_nil]
          go_wp2
          go_ret2
          exact ⟨_, by rw [hrn.out]; rfl, by rw [hrn.out]; exact ownI_nil _ _ _, hbel⟩
        | cons c r =>
          obtain ⟨b, off, cap, rfl, hc, hm, hcell⟩ := hrest.lies (by simp)
          have hc00 : w.cell? ⟨b, off, none⟩ = some (.int .u8 c) := by simpa using hcell 0 (by simp)
          have hc0 : wr.cell? ⟨b, off, none⟩ = some (.int .u8 c) := (hbel.cell (p := ⟨b, off, none⟩) (World.block_lt_of_cell? w _ hc00)).trans hc00
          have hltb : b < wr.heap.size := World.block_lt_of_cell? wr _ hc0
          have hcb := hby.out c (by simp)
          have hbr : ∀ x ∈ r, 0 ≤ x ∧ x ≤ 255 := fun x hx => hby.out x (List.mem_cons_of_mem _ hx)
          have hrd : Rd wr (.slice (if cap = 1 then some ⟨b, off, none⟩ else some ⟨b, off + 1, none⟩) r.length (cap - 1)) r := by
            have := (Rd.behind hcell hc hm (Nat.le_refl r.length)).below hbel (Nat.le_refl _)
            rwa [List.take_of_length_le (Nat.le_refl _)] at this
          obtain ⟨a1, ha1⟩ : ∃ a1 : Option Addr, (if cap = 1 then some (⟨b, off, none⟩ : Addr) else some ⟨b, off + 1, none⟩) = a1 := ⟨_, rfl⟩
          rw [ha1] at hrd
          have hz : ((r.length : Int) + 1 == 0) = false := by simp; omega
          have h1 := fun o => refTakeNumber_any _ r _ (hrd.below ((Below.refl wr.heap.size wr).alloc (Nat.le_refl _) o) (Nat.le_refl _)) hbr
          have h2 := fun o => refTakeText_any _ r _ (hrd.below ((Below.refl wr.heap.size wr).alloc (Nat.le_refl _) o) (Nat.le_refl _)) hbr
          have f1 := takeN_facts r
          have f2 := takeT_facts r
          obtain ⟨⟨xn, k, er⟩, hx⟩ : ∃ x, x = takeN r := ⟨_, rfl⟩
          obtain ⟨⟨t, k2, er2⟩, hx2⟩ : ∃ x, x = takeT r := ⟨_, rfl⟩
          rw [← hx] at h1 f1
          rw [← hx2] at h2 f2
          have HX : Hid ((xn, k, er) = takeN r) := hx
          have HX2 : Hid ((t, k2, er2) = takeT r) := hx2
          have HP : Hid (∀ q, q ≤ r.length + 1 → Rd w (.slice (if cap = q then some ⟨b, off, none⟩ else some ⟨b, off + q, none⟩) (r.length + 1 - q) (cap - q)) ((c :: r).drop q)) := by
            intro q hq
            have := Rd.part (n := r.length + 1 - q) (k := q) rfl hcell hc hm (by simp only [List.length_cons]; omega)
            rwa [List.take_of_length_le (by rw [List.length_drop, List.length_cons]; omega)] at this
          simp only [List.length_cons] at hc ⊢
          unfold maxLen at hm
          clear hcell hx hx2 hrd hbr hrest hc00
          dsimp only at f1 f2
          by_cases c1 : c = 1
          · subst c1
            clear h2 f2 HX2
            by_cases he : er = 0
            · subst he
              have f3 := f1.2.2 rfl
              obtain ⟨k, rfl⟩ := toNat_ex k (by omega)
              have hkr : 1 + k ≤ r.length + 1 := by omega
              have HI : Hid (whole (ahead (l ++ [(false, xn, ⟨#[]⟩)]) (rdN (n - (j + 1)) ((1 :: r).drop (1 + k)))) = readS bs) := by
                have e := hinv.out
                have et := takeI_num HX.out
                rw [hd, rdN_ok (by rw [et]), et] at e
                rw [show n - (j + 1) = d by omega]
                exact e
              have hrq := HP.out (1 + k) hkr
              obtain ⟨a2, ha2⟩ : ∃ a2 : Option Addr, (if cap = 1 + k then some (⟨b, off, none⟩ : Addr) else some ⟨b, off + (1 + k), none⟩) = a2 := ⟨_, rfl⟩
              rw [ha2] at hrq
              have hbq : Hid (∀ x ∈ (1 :: r).drop (1 + k), 0 ≤ x ∧ x ≤ 255) := fun x hx => hby.out x (List.mem_of_mem_drop hx)
              have hi1 : (k : Int) ≤ (r.length : Int) := by omega
              have hsr : ∀ w', (Instr.slice 22 (.slice (some ⟨b, off, none⟩) (r.length + 1) cap) (some (.int .i64 (1 + (k : Int)))) none none).run Try.prog w' = .ok (.slice a2 (r.length + 1 - (1 + k)) (cap - (1 + k))) w' := fun w' => by rw [← ha2]; exact slice_from b off (r.length + 1) cap (1 + k) hkr w'
              have hwr : IntKind.i64.wrap (1 + (k : Int)) = 1 + (k : Int) := by rw [IntKind.wrap_i64]; omega
              clear HP HX hinv hd hby
              go_wp2_with (first
                | (go_at_call 13; refine (h1 _).mono ?_; rintro e w1 ⟨rfl, hb1⟩; obtain ⟨x0, x1, x2, y0, y1, y2, hs1, bel1⟩ := laid3 (by simp) hb1))
              obtain ⟨w2, hw2⟩ : ∃ w2, w2 = w1.setCell ⟨wr.heap.size, 1, none⟩ (.int .i64 xn) := ⟨_, rfl⟩
              have cx0 : w2.cell? ⟨wr.heap.size, 0, none⟩ = some (.bool false) := by rw [hw2]; exact set_by (by decide) x0
              have cx1 : w2.cell? ⟨wr.heap.size, 1, none⟩ = some (.int .i64 xn) := by rw [hw2]; exact set_at x1
              have cx2 : w2.cell? ⟨wr.heap.size, 2, none⟩ = some (.string ⟨#[]⟩) := by rw [hw2]; exact set_by (by decide) x2
              have belx : Below wr.heap.size wr w2 := by rw [hw2]; exact bel1.setCell (Nat.le_refl _) _
              rw [← hw2]
              have bel2 := hbel.trans (belx.mono hbel.size)
              have ho2 := ho.below belx (Nat.le_refl _)
              have hfar : some wr.heap.size ≠ u7.ownBlock := fun h => Nat.lt_irrefl _ (ho.lt _ h.symm).2
              have HL : Hid (∀ q, u7.ownBlock = some q → w.heap.size ≤ q) := fun q hq => (ho.lt q hq).1
              clear hw2 x0 x1 x2 y0 y1 y2 hs1 bel1 belx hb1 h1 ho
              go_region_held_law (fun w' => w'.cell? ⟨wr.heap.size, 0, none⟩ = some (.bool false) ∧ w'.cell? ⟨wr.heap.size, 1, none⟩ = some (.int .i64 xn) ∧ w'.cell? ⟨wr.heap.size, 2, none⟩ = some (.string ⟨#[]⟩))
                (first | exact ⟨cx0, cx1, cx2⟩ | exact far3 hg3 hfar cx0 cx1 cx2 | go_keep)
                ((refine step_append_both _ (by rfl) (.tmp 60) (.tmp 62) 27 27 (by rfl) w.heap.size 42 i0 (.agg #[.bool false, .int .i64 0, .string ⟨#[]⟩]) 3 32 Try.underlying27 hi hz0 hz1 hz2 rfl u7 l.length _ (by rfl) ((ho2.alloc _).drew) _ 1 (cel (false, xn, ⟨#[]⟩)) (by rfl) (src_item_drew Try.underlying27 w2 (false, xn, ⟨#[]⟩)) 1 (.inr (by have := hlen.out; omega)) (Nat.le_refl _) (by have := hlen.out; unfold maxLen; omega) (by have := bel2.size; simp; omega) ?_; intro v3 w3 ho3 hg3 _))
              have bel3 : Below w.heap.size w w3 := ((bel2.alloc bel2.size _).drew).grown hg3 (by have := bel2.size; simp; omega) HL.out
              have ho4 := ownI_snoc ho3
              clear ho3 hg3 ho2 cx0 cx1 cx2
              go_wp2
              go_roundw
              case rel => exact ⟨j + 1, (1 :: r).drop (1 + k), l ++ [(false, xn, ⟨#[]⟩)], hlt, by go_num, hrq, hbq, by show (l ++ [((false, xn, ⟨#[]⟩) : It)]).length = j + 1; rw [List.length_append, hlen.out]; rfl, ho4, HI, bel3⟩
              case measure => simp [intOf]; omega
            · have hrn : Hid (readS bs = none) := by show readS bs = none; rw [← hinv.out, hd, rdN_not (by rw [takeI_numNot HX.out he])]; rfl
              have he' : (er != 0) = true := by simpa using he
              clear HP HX hinv hd hby
              go_wp2_with (first
                | (go_at_call 13; refine (h1 _).mono ?_; rintro e w1 ⟨rfl, hb1⟩; obtain ⟨x0, x1, x2, y0, y1, y2, hs1, bel1⟩ := laid3 (by simp) hb1))
              go_ret2
              exact ⟨_, by rw [hrn.out]; rfl, by rw [hrn.out]; exact ownI_nil _ _ _, hbel.trans ((bel1.setCell (Nat.le_refl _) _).mono hbel.size)⟩
          · have c1' : (c == 1) = false := by simpa using c1
            clear h1 f1 HX
            by_cases c2 : c = 2
            · subst c2
              by_cases he : er2 = 0
              · subst he
                obtain ⟨k2, rfl⟩ := toNat_ex k2 (by omega)
                have hkr : 1 + k2 ≤ r.length + 1 := by omega
                have HI : Hid (whole (ahead (l ++ [(true, 0, strOfNums t)]) (rdN (n - (j + 1)) ((2 :: r).drop (1 + k2)))) = readS bs) := by
                  have e := hinv.out
                  have et := takeI_txt HX2.out
                  rw [hd, rdN_ok (by rw [et]), et] at e
                  rw [show n - (j + 1) = d by omega]
                  exact e
                have hrq := HP.out (1 + k2) hkr
                obtain ⟨a2, ha2⟩ : ∃ a2 : Option Addr, (if cap = 1 + k2 then some (⟨b, off, none⟩ : Addr) else some ⟨b, off + (1 + k2), none⟩) = a2 := ⟨_, rfl⟩
                rw [ha2] at hrq
                have hbq : Hid (∀ x ∈ (2 :: r).drop (1 + k2), 0 ≤ x ∧ x ≤ 255) := fun x hx => hby.out x (List.mem_of_mem_drop hx)
                have hi1 : (k2 : Int) ≤ (r.length : Int) := by omega
                have hsr : ∀ w', (Instr.slice 22 (.slice (some ⟨b, off, none⟩) (r.length + 1) cap) (some (.int .i64 (1 + (k2 : Int)))) none none).run Try.prog w' = .ok (.slice a2 (r.length + 1 - (1 + k2)) (cap - (1 + k2))) w' := fun w' => by rw [← ha2]; exact slice_from b off (r.length + 1) cap (1 + k2) hkr w'
                have hwr : IntKind.i64.wrap (1 + (k2 : Int)) = 1 + (k2 : Int) := by rw [IntKind.wrap_i64]; omega
                clear HP HX2 hinv hd hby
                go_wp2_with (first
                  | (go_at_call 14; refine (h2 _).mono ?_; rintro e w1 ⟨rfl, hb1⟩; obtain ⟨x0, x1, x2, y0, y1, y2, hs1, bel1⟩ := laid3 (by simp) hb1))
                obtain ⟨w2, hw2⟩ : ∃ w2, w2 = w1.setCell ⟨wr.heap.size, 2, none⟩ (.string (strOfNums t)) := ⟨_, rfl⟩
                have cx0 : w2.cell? ⟨wr.heap.size, 0, none⟩ = some (.bool true) := by rw [hw2]; exact set_by (by decide) x0
                have cx1 : w2.cell? ⟨wr.heap.size, 1, none⟩ = some (.int .i64 0) := by rw [hw2]; exact set_by (by decide) x1
                have cx2 : w2.cell? ⟨wr.heap.size, 2, none⟩ = some (.string (strOfNums t)) := by rw [hw2]; exact set_at x2
                have belx : Below wr.heap.size wr w2 := by rw [hw2]; exact bel1.setCell (Nat.le_refl _) _
                rw [← hw2]
                have bel2 := hbel.trans (belx.mono hbel.size)
                have ho2 := ho.below belx (Nat.le_refl _)
                have hfar : some wr.heap.size ≠ u7.ownBlock := fun h => Nat.lt_irrefl _ (ho.lt _ h.symm).2
                have HL : Hid (∀ q, u7.ownBlock = some q → w.heap.size ≤ q) := fun q hq => (ho.lt q hq).1
                clear hw2 x0 x1 x2 y0 y1 y2 hs1 bel1 belx hb1 h2 ho
                go_region_held_law (fun w' => w'.cell? ⟨wr.heap.size, 0, none⟩ = some (.bool true) ∧ w'.cell? ⟨wr.heap.size, 1, none⟩ = some (.int .i64 0) ∧ w'.cell? ⟨wr.heap.size, 2, none⟩ = some (.string (strOfNums t)))
                  (first | exact ⟨cx0, cx1, cx2⟩ | exact far3 hg3 hfar cx0 cx1 cx2 | go_keep)
                  ((refine step_append_both _ (by rfl) (.tmp 60) (.tmp 62) 27 27 (by rfl) w.heap.size 42 i0 (.agg #[.bool false, .int .i64 0, .string ⟨#[]⟩]) 3 32 Try.underlying27 hi hz0 hz1 hz2 rfl u7 l.length _ (by rfl) ((ho2.alloc _).drew) _ 1 (cel (true, 0, strOfNums t)) (by rfl) (src_item_drew Try.underlying27 w2 (true, 0, strOfNums t)) 1 (.inr (by have := hlen.out; omega)) (Nat.le_refl _) (by have := hlen.out; unfold maxLen; omega) (by have := bel2.size; simp; omega) ?_; intro v3 w3 ho3 hg3 _))
                have bel3 : Below w.heap.size w w3 := ((bel2.alloc bel2.size _).drew).grown hg3 (by have := bel2.size; simp; omega) HL.out
                have ho4 := ownI_snoc ho3
                clear ho3 hg3 ho2 cx0 cx1 cx2
                go_wp2
                go_roundw
                case rel => exact ⟨j + 1, (2 :: r).drop (1 + k2), l ++ [(true, 0, strOfNums t)], hlt, by go_num, hrq, hbq, by show (l ++ [(true, 0, strOfNums t)]).length = j + 1; rw [List.length_append, hlen.out]; rfl, ho4, HI, bel3⟩
                case measure => simp [intOf]; omega
              · have hrn : Hid (readS bs = none) := by show readS bs = none; rw [← hinv.out, hd, rdN_not (by rw [takeI_txtNot HX2.out he])]; rfl
                have he' : (er2 != 0) = true := by simpa using he
                clear HP HX2 hinv hd hby
                go_wp2_with (first
                  | (go_at_call 14; refine (h2 _).mono ?_; rintro e w1 ⟨rfl, hb1⟩; obtain ⟨x0, x1, x2, y0, y1, y2, hs1, bel1⟩ := laid3 (by simp) hb1))
                go_ret2
                exact ⟨_, by rw [hrn.out]; rfl, by rw [hrn.out]; exact ownI_nil _ _ _, hbel.trans ((bel1.setCell (Nat.le_refl _) _).mono hbel.size)⟩
            · have c2' : (c == 2) = false := by simpa using c2
              have hrn : Hid (readS bs = none) := by show readS bs = none; rw [← hinv.out, hd, rdN_not (by rw [takeI_not c1 c2])]; rfl
              clear HP HX2 hinv hd hby h2 f2
              go_wp2
              go_ret2
              exact ⟨_, by rw [hrn.out]; rfl, by rw [hrn.out]; exact ownI_nil _ _ _, hbel.alloc hbel.size _⟩
      · have hjn : n - j = 0 := by omega
        have hinv2 := hinv.out
        rw [hjn, rdN_zero] at hinv2
        obtain ⟨a, cp, rfl, _, _, _, _⟩ := hrest
        cases rest with
        | nil =>
          have hrs : Hid (readS bs = some l) := hinv2.symm
          clear hinv hinv2
          simp only [List.length_nil]
          go_wp2
          go_ret2
          exact ⟨_, by rw [hrs.out]; rfl, by rw [hrs.out]; exact ho, hbel⟩
        | cons c r =>
          have hrs : Hid (readS bs = none) := hinv2.symm
          clear hinv hinv2
          simp only [List.length_cons]
          go_wp2
          go_ret2
          exact ⟨_, by rw [hrs.out]; rfl, by rw [hrs.out]; exact ownI_nil _ _ _, hbel⟩
  · have HR := readS_bad HX.out hg
    rw [HR]
    by_cases he : er = 0
    · subst he
      by_cases hn0 : n < 0
      · go_enter Try.func6, Try.ntmps6
        go_wp2_with (first
          | (go_at_call 13; refine h1.mono ?_; rintro e w' ⟨rfl, bel1⟩))
        go_ret2
        exact ⟨_, rfl, ownI_nil _ _ _, bel1⟩
      · have hn4 : 4000 < n := by omega
        go_enter Try.func6, Try.ntmps6
        go_wp2_with (first
          | (go_at_call 13; refine h1.mono ?_; rintro e w' ⟨rfl, bel1⟩))
        go_ret2
        exact ⟨_, rfl, ownI_nil _ _ _, bel1⟩
    · have he' : (er != 0) = true := by simpa using he
      clear HX
      go_enter Try.func6, Try.ntmps6
      go_wp2_with (first
        | (go_at_call 13; refine h1.mono ?_; rintro e w' ⟨rfl, bel1⟩))
      go_ret2
      exact ⟨_, rfl, ownI_nil _ _ _, bel1⟩
end Go.Proofs.Ytdbfblkdjijmmab
