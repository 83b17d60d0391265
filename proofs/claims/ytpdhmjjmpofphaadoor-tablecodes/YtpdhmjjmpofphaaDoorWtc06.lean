import Derived.Test.YtpdhmjjmpofphaaDoorRows
import Derived.Test.YtpdhmjjmpofphaaDoorWtc01
import Derived.Test.YtpdhmjjmpofphaaDoorWtc03
import Derived.Shelf.Unicode.DecodeAny
import Derived.Lib.LaidU8
import Derived.PinnedBridge
import Derived.Lay
import Derived.LaidMore
import Derived.MakeChecks
import Derived.BigQuiet
import Derived.Deep.QuietTactic
import Derived.Test.YtpdhmjjmpofphaaDoorWtc04

/- What the document's add does. -/
namespace Go.Proofs.YtpdhmjjmpofphaaDoor
open Go.RowKit Go.Lib
set_option linter.unusedSimpArgs false
set_option linter.unusedVariables false

set_option maxRecDepth 100000 in
set_option maxHeartbeats 2000000 in
theorem add_any (ls : List ByteArray) (s : ByteArray) (v : Value) (w : World) (h : RdS w v ls) (hl : ls.length ≤ 1000) :
    Calls Tryd.prog 42 #[v, .string s] w fun e w' => ∃ u, e = .returned u ∧ RdS w' u (adS ls s) ∧ Below w.heap.size w w' := by
  obtain ⟨i0, hi, hz0, hz1, hz2⟩ := info_parts Tryd.infoStr
  rcases h.form with ⟨rfl, rfl⟩ | ⟨g, cap, rfl, hlc, hcm, hcell⟩
  · have e : adS [] s = [s] := rfl
    rw [e]
    clear h hl
    go_enter Tryd.func42, Tryd.ntmps42
    go_wp2
    refine wp_loop_rounds 1 ?_
    rw [rounds_succ]
    go_wp2_with (first
      | (at_builtin; refine wpList_append_both _ rfl (.tmp 43) (.tmp 46) 50 50 rfl w.heap.size 9 i0 (.string ⟨#[]⟩) 1 16 Tryd.underlying50 hi hz0 hz1 hz2 rfl v4 (0 + 1) _ rfl ho4 _ 0 [] rfl (Src.ofNil w4 Tryd.underlying50 0) 0 (.inr (by omega)) (Nat.le_refl _) (by unfold maxLen; omega) bel4.size ?_; intro v5 w5 ho5 hg5 _; have bel5 := bel4.grown hg5 bel4.size (fun k hk => (World.ownsRow.lt ho4 k hk).1); clear ho4 hg5 bel4)
      | (at_builtin; refine wpList_append_both _ rfl (.tmp 39) (.tmp 41) 50 50 rfl w.heap.size 9 i0 (.string ⟨#[]⟩) 1 16 Tryd.underlying50 hi hz0 hz1 hz2 rfl v3 0 _ rfl (World.ownsRow.alloc ho3 _) _ 1 (cS [s]) rfl (src_texts Tryd.underlying50 rfl (fun i hi => by match i, hi with | 0, _ => simp [Addr.add])) 1 (.inr (by omega)) (Nat.le_refl _) (by unfold maxLen; omega) (by have := bel3.size; simp; omega) ?_; intro v4 w4 ho4 hg4 _; have bel4 := (bel3.alloc bel3.size _).grown hg4 (by have := bel3.size; simp; omega) (fun k hk => (World.ownsRow.lt ho3 k hk).1); clear ho3 hg4 bel3)
      | (at_builtin; refine wpList_append_both _ rfl (.tmp 34) (.tmp 37) 50 50 rfl w.heap.size 9 i0 (.string ⟨#[]⟩) 1 16 Tryd.underlying50 hi hz0 hz1 hz2 rfl _ 0 [] rfl (World.ownsRow_nil w w.heap.size 9 1) _ 0 [] rfl (Src.ofNil w Tryd.underlying50 0) 0 (.inr (by omega)) (Nat.le_refl _) (by unfold maxLen; omega) (Nat.le_refl _) ?_; intro v3 w3 ho3 hg3 _; simp only [Nat.zero_add, List.nil_append] at ho3; have bel3 := (Below.refl w.heap.size w).grown hg3 (Nat.le_refl _) (fun k hk => (World.ownsRow.lt (World.ownsRow_nil w w.heap.size 9 1) k hk).1); clear hg3))
    go_ret
    exact ⟨_, rfl, by simpa [RdS, cS] using ownsRow_zero ho5, bel5⟩
  · have HC : Hid (∀ (i : Nat) (hi : i < ls.length), w.cell? ⟨g, i, none⟩ = some (.string ls[i])) := hcell
    have hrd := h
    obtain ⟨R, hR⟩ : ∃ R, adS ls s = R := ⟨_, rfl⟩
    rw [hR]
    have HR : Hid (adS ls s = R) := hR
    have hcm' : cap ≤ 9223372036854775807 := by unfold maxLen at hcm; omega
    clear hcell h hcm hR
    go_enter Tryd.func42, Tryd.ntmps42
    go_wp2
    go_loop [5] (fun i => ∃ (j : Nat), j ≤ ls.length ∧ i = .int .i64 (j : Int) ∧ Hid (∀ (i : Nat) (hi : i < ls.length), i < j → lss ls[i] s = true)) (fun i => ls.length - (RowKit.intOf i).toNat)
    case atStart => exact ⟨0, Nat.zero_le _, rfl, fun i hi h => by omega⟩
    case round =>
      obtain ⟨j, hj, rfl, hsm⟩ := hrel
      have i2 : (0 : Int) ≤ (j : Int) := by omega
      by_cases hlt : j < ls.length
      · have i1 : (j : Int) < (ls.length : Int) := by omega
        have hc := HC.out j hlt
        obtain ⟨x, hx⟩ : ∃ x, ls[j] = x := ⟨_, rfl⟩
        rw [hx] at hc
        cases hls : lss x s with
        | true =>
          have e1 : Op.bytesLess x.toList s.toList = true := hls
          have hN : Hid (∀ (i : Nat) (hi : i < ls.length), i < j + 1 → lss ls[i] s = true) := fun i hi h => by
            rcases Nat.lt_or_ge i j with h2 | h2
            · exact hsm.out i hi h2
            · have : i = j := by omega
              subst this
              rw [hx]; exact hls
          clear hls hx
          go_wp2
          go_round
          case rel => exact ⟨j + 1, hlt, by go_num, hN⟩
          case measure => simp [RowKit.intOf]; omega
        | false =>
          have e1 : Op.bytesLess x.toList s.toList = false := hls
          have hlead : lead ls s = j := lead_of ls s j hj hsm.out (fun hk => by rw [hx]; exact hls)
          by_cases heq : x = s
          · have hF : R = ls := by rw [← HR.out]; unfold adS; rw [hlead, if_pos (by rw [List.getElem?_eq_getElem hlt, hx, heq])]
            subst hF
            have e2 : (x.toList == s.toList) = true := by rw [heq]; simp
            clear hls hx hlead heq
            go_wp2
            go_ret
            exact ⟨_, rfl, hrd, Below.refl _ _⟩
          · have hne : ¬ ls[j]? = some s := by rw [List.getElem?_eq_getElem hlt, hx]; intro e; exact heq (Option.some.inj e)
            have e2 : (x.toList == s.toList) = false := by
              rw [ByteArray.toList_eq, ByteArray.toList_eq]
              exact beq_eq_false_iff_ne.2 (fun e => heq (ByteArray.ext (Array.toList_inj.1 e)))
            clear hls hx heq
            have hF : R = ls.take j ++ [s] ++ ls.drop j := by rw [← HR.out]; unfold adS; rw [hlead, if_neg hne]
            subst hF
            have hlt1 : (ls.take j).length = j := by rw [List.length_take]; omega
            have hs1 : ∀ (i : Nat) (hi : i < (ls.take j).length), w.cell? ((⟨g, 0, none⟩ : Addr).add i) = some (.string (ls.take j)[i]) := fun i hi => by
              rw [add_plain1, Nat.zero_add, List.getElem_take]
              exact HC.out i (by omega)
            have hs3 : ∀ w1, Below w.heap.size w w1 → Src Tryd.prog 1 50 (.slice (some ⟨g, j, none⟩) (ls.length - j) (cap - j)) (ls.length - j) (cS (ls.drop j)) w1 := fun w1 b1 => by
              refine src_texts Tryd.underlying50 (by rw [List.length_drop]) (fun i hi => ?_)
              rw [List.length_drop] at hi
              rw [add_plain1, List.getElem_drop]
              have hc := HC.out (j + i) (by omega)
              rw [b1.cell (p := ⟨g, j + i, none⟩) (World.block_lt_of_cell? w _ hc)]
              exact hc
            have i5 : (j : Int) ≤ (cap : Int) := by omega
            have i6 : (j : Int) ≤ (ls.length : Int) := by omega
            clear hne hlead hlt
            go_wp2_with (first
              | (at_builtin; refine wpList_append_both _ rfl (.tmp 43) (.tmp 46) 50 50 rfl w.heap.size 9 i0 (.string ⟨#[]⟩) 1 16 Tryd.underlying50 hi hz0 hz1 hz2 rfl v4 (j + 1) _ rfl ho4 _ (ls.length - j) (cS (ls.drop j)) rfl (hs3 w4 bel4) (ls.length - j) (.inr (by omega)) (Nat.le_refl _) (by unfold maxLen; omega) bel4.size ?_; intro v5 w5 ho5 hg5 _; have bel5 := bel4.grown hg5 bel4.size (fun k hk => (World.ownsRow.lt ho4 k hk).1); clear ho4 hg5 bel4)
              | (at_builtin; refine wpList_append_both _ rfl (.tmp 39) (.tmp 41) 50 50 rfl w.heap.size 9 i0 (.string ⟨#[]⟩) 1 16 Tryd.underlying50 hi hz0 hz1 hz2 rfl v3 j _ rfl (World.ownsRow.alloc ho3 _) _ 1 (cS [s]) rfl (src_texts Tryd.underlying50 rfl (fun i hi => by match i, hi with | 0, _ => simp [Addr.add])) 1 (.inr (by omega)) (Nat.le_refl _) (by unfold maxLen; omega) (by have := bel3.size; simp; omega) ?_; intro v4 w4 ho4 hg4 _; have bel4 := (bel3.alloc bel3.size _).grown hg4 (by have := bel3.size; simp; omega) (fun k hk => (World.ownsRow.lt ho3 k hk).1); clear ho3 hg4 bel3)
              | (at_builtin; refine wpList_append_both _ rfl (.tmp 34) (.tmp 37) 50 50 rfl w.heap.size 9 i0 (.string ⟨#[]⟩) 1 16 Tryd.underlying50 hi hz0 hz1 hz2 rfl _ 0 [] rfl (World.ownsRow_nil w w.heap.size 9 1) _ j (cS (ls.take j)) rfl (src_texts Tryd.underlying50 hlt1 hs1) j (.inr (by omega)) (Nat.le_refl _) (by unfold maxLen; omega) (Nat.le_refl _) ?_; intro v3 w3 ho3 hg3 _; simp only [Nat.zero_add, List.nil_append] at ho3; have bel3 := (Below.refl w.heap.size w).grown hg3 (Nat.le_refl _) (fun k hk => (World.ownsRow.lt (World.ownsRow_nil w w.heap.size 9 1) k hk).1); clear hg3))
            have e5 : (ls.take j ++ [s] ++ ls.drop j).length = j + 1 + (ls.length - j) := by simp; omega
            have hres : RdS w5 v5 (ls.take j ++ [s] ++ ls.drop j) := by
              unfold RdS
              rw [e5, cS_append, cS_append]
              exact ownsRow_zero ho5
            go_ret
            exact ⟨_, rfl, by first | exact hres | simpa using hres, bel5⟩
      · have i1 : ¬ (j : Int) < (ls.length : Int) := by omega
        have hlead : lead ls s = j := lead_of ls s j hj hsm.out (fun hk => absurd hk hlt)
        have hne : ¬ ls[j]? = some s := by rw [List.getElem?_eq_none (by omega)]; intro e; cases e
        have hF : R = ls.take j ++ [s] ++ ls.drop j := by rw [← HR.out]; unfold adS; rw [hlead, if_neg hne]
        subst hF
        have hlt1 : (ls.take j).length = j := by rw [List.length_take]; omega
        have hs1 : ∀ (i : Nat) (hi : i < (ls.take j).length), w.cell? ((⟨g, 0, none⟩ : Addr).add i) = some (.string (ls.take j)[i]) := fun i hi => by
          rw [add_plain1, Nat.zero_add, List.getElem_take]
          exact HC.out i (by omega)
        obtain ⟨a1, ha1⟩ : ∃ a1 : Option Addr, (if cap = j then some (⟨g, 0, none⟩ : Addr) else some ⟨g, j, none⟩) = a1 := ⟨_, rfl⟩
        have hs3 : ∀ w1, Below w.heap.size w w1 → Src Tryd.prog 1 50 (.slice a1 (ls.length - j) (cap - j)) (ls.length - j) (cS (ls.drop j)) w1 := fun w1 b1 => by
          by_cases hcj : cap = j
          · rw [if_pos hcj] at ha1
            subst ha1
            have h0 : ls.length - j = 0 := by omega
            rw [h0, List.drop_eq_nil_of_le (by omega)]
            exact src_texts Tryd.underlying50 rfl (fun i hi => by simp at hi)
          · rw [if_neg hcj] at ha1
            subst ha1
            refine src_texts Tryd.underlying50 (by rw [List.length_drop]) (fun i hi => ?_)
            rw [List.length_drop] at hi
            rw [add_plain1, List.getElem_drop]
            have hc := HC.out (j + i) (by omega)
            rw [b1.cell (p := ⟨g, j + i, none⟩) (World.block_lt_of_cell? w _ hc)]
            exact hc
        have i5 : (j : Int) ≤ (cap : Int) := by omega
        have i6 : (j : Int) ≤ (ls.length : Int) := by omega
        clear hne hlead hlt
        go_wp2_with (first
          | (at_builtin; refine wpList_append_both _ rfl (.tmp 43) (.tmp 46) 50 50 rfl w.heap.size 9 i0 (.string ⟨#[]⟩) 1 16 Tryd.underlying50 hi hz0 hz1 hz2 rfl v4 (j + 1) _ rfl ho4 _ (ls.length - j) (cS (ls.drop j)) rfl (hs3 w4 bel4) (ls.length - j) (.inr (by omega)) (Nat.le_refl _) (by unfold maxLen; omega) bel4.size ?_; intro v5 w5 ho5 hg5 _; have bel5 := bel4.grown hg5 bel4.size (fun k hk => (World.ownsRow.lt ho4 k hk).1); clear ho4 hg5 bel4)
          | (at_builtin; refine wpList_append_both _ rfl (.tmp 39) (.tmp 41) 50 50 rfl w.heap.size 9 i0 (.string ⟨#[]⟩) 1 16 Tryd.underlying50 hi hz0 hz1 hz2 rfl v3 j _ rfl (World.ownsRow.alloc ho3 _) _ 1 (cS [s]) rfl (src_texts Tryd.underlying50 rfl (fun i hi => by match i, hi with | 0, _ => simp [Addr.add])) 1 (.inr (by omega)) (Nat.le_refl _) (by unfold maxLen; omega) (by have := bel3.size; simp; omega) ?_; intro v4 w4 ho4 hg4 _; have bel4 := (bel3.alloc bel3.size _).grown hg4 (by have := bel3.size; simp; omega) (fun k hk => (World.ownsRow.lt ho3 k hk).1); clear ho3 hg4 bel3)
          | (at_builtin; refine wpList_append_both _ rfl (.tmp 34) (.tmp 37) 50 50 rfl w.heap.size 9 i0 (.string ⟨#[]⟩) 1 16 Tryd.underlying50 hi hz0 hz1 hz2 rfl _ 0 [] rfl (World.ownsRow_nil w w.heap.size 9 1) _ j (cS (ls.take j)) rfl (src_texts Tryd.underlying50 hlt1 hs1) j (.inr (by omega)) (Nat.le_refl _) (by unfold maxLen; omega) (Nat.le_refl _) ?_; intro v3 w3 ho3 hg3 _; simp only [Nat.zero_add, List.nil_append] at ho3; have bel3 := (Below.refl w.heap.size w).grown hg3 (Nat.le_refl _) (fun k hk => (World.ownsRow.lt (World.ownsRow_nil w w.heap.size 9 1) k hk).1); clear hg3))
        have e5 : (ls.take j ++ [s] ++ ls.drop j).length = j + 1 + (ls.length - j) := by simp; omega
        have hres : RdS w5 v5 (ls.take j ++ [s] ++ ls.drop j) := by
          unfold RdS
          rw [e5, cS_append, cS_append]
          exact ownsRow_zero ho5
        go_ret
        exact ⟨_, rfl, by first | exact hres | simpa using hres, bel5⟩
end Go.Proofs.YtpdhmjjmpofphaaDoor

/- What the document's Nodes and deep do. -/
namespace Go.Proofs.YtpdhmjjmpofphaaDoor
open Go.RowKit
set_option linter.unusedSimpArgs false
set_option linter.unusedVariables false

def NodesC (d : Nat) : Prop := ∀ (ok : Nat → Prop) (t : T d) (v : Value) (w : World), RdT ok w d t v → cnt d t ≤ 100000 →
  Calls Tryd.prog 30 #[v] w fun e w' => e = .returned (.int .i64 (ndC d t : Int)) ∧ Below w.heap.size w w'
def DeepC (d : Nat) : Prop := ∀ (ok : Nat → Prop) (t : T d) (v : Value) (w : World), RdT ok w d t v → cnt d t ≤ 100000 →
  Calls Tryd.prog 31 #[v] w fun e w' => e = .returned (.int .i64 (dpC d t : Int)) ∧ Below w.heap.size w w'

set_option maxRecDepth 100000 in
set_option maxHeartbeats 1000000 in
theorem nodes_step (d : Nat) (IH : NodesC d) : NodesC (d + 1) := by
  intro ok t v w h hcn
  obtain ⟨k, n, s, ps, rfl⟩ := T.open t
  obtain ⟨sl, rfl, hp⟩ := rdT_mk.1 h
  obtain ⟨a, cap, rfl, hlc, hcm, hcell⟩ := hp.form
  rw [cnt_mk] at hcn
  have hpl := cnt_len ps
  rw [ndC_mk]
  have hE : Hid (∀ m : Nat, m = (ps.map (ndC d)).sum → ((min ((ps.map (ndC d)).sum + 1) 41 : Nat) : Int) = min ((m : Int) + 1) 41) := fun m hm => by subst hm; omega
  have HC : Hid (∀ (i : Nat) (hi : i < ps.length), ∃ b off c0 c1 c2 c3, a = some ⟨b, off, none⟩ ∧ b < w.heap.size ∧ RdT ok w d ps[i] (.agg #[c0, c1, c2, c3]) ∧ w.cell? ⟨b, off + i * 4, none⟩ = some c0 ∧ w.cell? ⟨b, off + i * 4 + 1, none⟩ = some c1 ∧ w.cell? ⟨b, off + i * 4 + 2, none⟩ = some c2 ∧ w.cell? ⟨b, off + i * 4 + 3, none⟩ = some c3) := hcell
  have HP : Hid (∀ (i : Nat) (hi : i < ps.length), cnt d ps[i] ≤ 100000) := fun i hi => by have := cnt_part (List.getElem_mem hi); omega
  have hpl' : ps.length ≤ 100000 := by omega
  clear hcell h hp hcn hpl
  go_enter Tryd.func30, Tryd.ntmps30
  go_wp2
  go_loopw [3, 8] (fun l i wr => ∃ (j m : Nat), j ≤ ps.length ∧ i = .int .i64 (j : Int) ∧ l = .int .i64 ((m : Int) + 1) ∧ Hid (m = ((ps.take j).map (ndC d)).sum) ∧ m ≤ 41 * j ∧ At4 wr w.heap.size (.int .i64 k) (.int .i64 n) (.string s) (.slice a ps.length cap) ∧ Below w.heap.size w wr) (fun _ i _ => ps.length - (RowKit.intOf i).toNat)
  case atStart => exact ⟨0, 0, Nat.zero_le _, rfl, rfl, rfl, by omega, At4.new _ _ _ _ _ _, (Below.refl _ _).alloc (Nat.le_refl _) _⟩
  case round =>
    obtain ⟨j, m, hj, rfl, rfl, hm, hmb, hA, hb⟩ := hrel
    obtain ⟨y0, y1, y2, y3⟩ := id hA
    by_cases hlt : j < ps.length
    · obtain ⟨b, off, c0, c1, c2, c3, rfl, hbl, hr, k0, k1, k2, k3⟩ := HC.out j hlt
      have C0 := (hb.cell (p := ⟨b, off + j * 4, none⟩) hbl).trans k0
      have C1 := (hb.cell (p := ⟨b, off + j * 4 + 1, none⟩) hbl).trans k1
      have C2 := (hb.cell (p := ⟨b, off + j * 4 + 2, none⟩) hbl).trans k2
      have C3 := (hb.cell (p := ⟨b, off + j * 4 + 3, none⟩) hbl).trans k3
      have hcall := IH ok ps[j] _ wr (RdT.below hb (Nat.le_refl _) hr) (HP.out j hlt)
      have hst := sum_take_succ (ndC d) ps j hlt
      have hle := ndC_le d ps[j]
      obtain ⟨z, hz⟩ : ∃ z, ndC d ps[j] = z := ⟨_, rfl⟩
      rw [hz] at hcall hst hle
      have hN : Hid (m + z = ((ps.take (j + 1)).map (ndC d)).sum) := by show m + z = _; rw [hst, ← hm.out]
      have i1 : (j : Int) < (ps.length : Int) := by omega
      have i2 : (0 : Int) ≤ (j : Int) := by omega
      clear k0 k1 k2 k3 hr hbl hst hz
      go_wp2_with (first
        | (go_at_call 30; refine hcall.mono ?_; rintro e w1 ⟨rfl, b1⟩))
      go_roundw
      case rel => exact ⟨j + 1, m + z, hlt, by go_num, by go_num, hN, by omega, hA.keepB b1 (World.block_lt_of_cell? wr _ y0), hb.trans (b1.mono hb.size)⟩
      case measure => simp [RowKit.intOf]; omega
    · have i1 : ¬ (j : Int) < (ps.length : Int) := by omega
      have hmm := hm.out
      rw [List.take_of_length_le (by omega)] at hmm
      have hF := hE.out m hmm
      clear hmm
      go_wp2
      all_goals go_ret
      all_goals exact ⟨ret_i64 (by omega), hb⟩
theorem nodes_any : ∀ (d : Nat), NodesC d
  | 0 => fun _ t => Empty.elim t
  | d + 1 => nodes_step d (nodes_any d)

set_option maxRecDepth 100000 in
set_option maxHeartbeats 1000000 in
theorem deep_step (d : Nat) (IH : DeepC d) : DeepC (d + 1) := by
  intro ok t v w h hcn
  obtain ⟨k, n, s, ps, rfl⟩ := T.open t
  obtain ⟨sl, rfl, hp⟩ := rdT_mk.1 h
  obtain ⟨a, cap, rfl, hlc, hcm, hcell⟩ := hp.form
  rw [cnt_mk] at hcn
  have hpl := cnt_len ps
  rw [dpC_mk]
  have HC : Hid (∀ (i : Nat) (hi : i < ps.length), ∃ b off c0 c1 c2 c3, a = some ⟨b, off, none⟩ ∧ b < w.heap.size ∧ RdT ok w d ps[i] (.agg #[c0, c1, c2, c3]) ∧ w.cell? ⟨b, off + i * 4, none⟩ = some c0 ∧ w.cell? ⟨b, off + i * 4 + 1, none⟩ = some c1 ∧ w.cell? ⟨b, off + i * 4 + 2, none⟩ = some c2 ∧ w.cell? ⟨b, off + i * 4 + 3, none⟩ = some c3) := hcell
  have HP : Hid (∀ (i : Nat) (hi : i < ps.length), cnt d ps[i] ≤ 100000) := fun i hi => by have := cnt_part (List.getElem_mem hi); omega
  have hpl' : ps.length ≤ 100000 := by omega
  clear hcell h hp hcn hpl
  go_enter Tryd.func31, Tryd.ntmps31
  go_wp2
  go_loopw [3, 8] (fun l i wr => ∃ (j m : Nat), j ≤ ps.length ∧ i = .int .i64 (j : Int) ∧ l = .int .i64 (m : Int) ∧ Hid (m = ((ps.take j).map (dpC d)).foldl max 0) ∧ m ≤ 100000 ∧ At4 wr w.heap.size (.int .i64 k) (.int .i64 n) (.string s) (.slice a ps.length cap) ∧ Below w.heap.size w wr) (fun _ i _ => ps.length - (RowKit.intOf i).toNat)
  case atStart => exact ⟨0, 0, Nat.zero_le _, rfl, rfl, rfl, by omega, At4.new _ _ _ _ _ _, (Below.refl _ _).alloc (Nat.le_refl _) _⟩
  case round =>
    obtain ⟨j, m, hj, rfl, rfl, hm, hmb, hA, hb⟩ := hrel
    obtain ⟨y0, y1, y2, y3⟩ := id hA
    by_cases hlt : j < ps.length
    · obtain ⟨b, off, c0, c1, c2, c3, rfl, hbl, hr, k0, k1, k2, k3⟩ := HC.out j hlt
      have C0 := (hb.cell (p := ⟨b, off + j * 4, none⟩) hbl).trans k0
      have C1 := (hb.cell (p := ⟨b, off + j * 4 + 1, none⟩) hbl).trans k1
      have C2 := (hb.cell (p := ⟨b, off + j * 4 + 2, none⟩) hbl).trans k2
      have C3 := (hb.cell (p := ⟨b, off + j * 4 + 3, none⟩) hbl).trans k3
      have hcall := IH ok ps[j] _ wr (RdT.below hb (Nat.le_refl _) hr) (HP.out j hlt)
      have hst := max_take_succ (dpC d) ps j hlt
      have hle := Nat.le_trans (dpC_le d ps[j]) (HP.out j hlt)
      obtain ⟨z, hz⟩ : ∃ z, dpC d ps[j] = z := ⟨_, rfl⟩
      rw [hz] at hcall hst hle
      have hN : Hid (max m z = ((ps.take (j + 1)).map (dpC d)).foldl max 0) := by show max m z = _; rw [hst, ← hm.out]
      have i1 : (j : Int) < (ps.length : Int) := by omega
      have i2 : (0 : Int) ≤ (j : Int) := by omega
      clear k0 k1 k2 k3 hr hbl hst hz
      go_wp2_with (first
        | (go_at_call 31; refine hcall.mono ?_; rintro e w1 ⟨rfl, b1⟩))
      go_roundw
      case rel => exact ⟨j + 1, max m z, hlt, by go_num, by first | rw [show (if m < z then (z : Int) else (m : Int)) = ((max m z : Nat) : Int) by split <;> omega] | (refine congrArg _ ?_; omega), hN, by omega, hA.keepB b1 (World.block_lt_of_cell? wr _ y0), hb.trans (b1.mono hb.size)⟩
      case measure => simp [RowKit.intOf]; omega
    · have i1 : ¬ (j : Int) < (ps.length : Int) := by omega
      have hmm := hm.out
      rw [List.take_of_length_le (by omega)] at hmm
      go_wp2
      go_ret
      rw [← hmm]
      exact ⟨by go_num, hb⟩
theorem deep_any : ∀ (d : Nat), DeepC d
  | 0 => fun _ t => Empty.elim t
  | d + 1 => deep_step d (deep_any d)
end Go.Proofs.YtpdhmjjmpofphaaDoor

/- The decoder of runes at this program, and the two tables that it reads. -/
namespace Go.Proofs.YtpdhmjjmpofphaaDoor
open Go.Shelf Go.RowKit
set_option linter.unusedVariables false

def renU : Ren := { f := fun x => match x with | 197 => 68 | 260 => 72 | n => n, t := fun x => match x with | 9 => 9 | 21 => 21 | 3 => 3 | 4 => 4 | 5 => 5 | 105 => 104 | 119 => 119 | 0 => 0 | 46 => 83 | 139 => 122 | 138 => 121 | n => n, g := fun x => match x with | 3 => 0 | 4 => 1 | n => n }
theorem laysU : Lays.n197 Tryd.prog renU :=
  { mixed := by kernel_rfl, f197 := Tryd.func68.trans (congrArg some (by kernel_rfl)), f260 := Tryd.func72.trans (congrArg some (by kernel_rfl)), t0 := Tryd.underlying0, a0 := Tryd.isAgg0, z0 := Tryd.sizeOf0, v0 := Tryd.zeroValue0, t3 := Tryd.underlying3, a3 := Tryd.isAgg3, z3 := Tryd.sizeOf3, v3 := Tryd.zeroValue3, t4 := Tryd.underlying4, a4 := Tryd.isAgg4, z4 := Tryd.sizeOf4, v4 := Tryd.zeroValue4, t5 := Tryd.underlying5, a5 := Tryd.isAgg5, z5 := Tryd.sizeOf5, v5 := Tryd.zeroValue5, t9 := Tryd.underlying9, a9 := Tryd.isAgg9, z9 := Tryd.sizeOf9, v9 := Tryd.zeroValue9, t21 := Tryd.underlying21, a21 := Tryd.isAgg21, z21 := Tryd.sizeOf21, v21 := Tryd.zeroValue21, t46 := Tryd.underlying83, a46 := Tryd.isAgg83, z46 := Tryd.sizeOf83, v46 := Tryd.zeroValue83, t105 := Tryd.underlying104, a105 := Tryd.isAgg104, z105 := Tryd.sizeOf104, v105 := Tryd.zeroValue104, t119 := Tryd.underlying119, a119 := Tryd.isAgg119, z119 := Tryd.sizeOf119, t138 := Tryd.underlying121, a138 := Tryd.isAgg121, z138 := Tryd.sizeOf121, v138 := Tryd.zeroValue121, t139 := Tryd.underlying122, a139 := Tryd.isAgg122, z139 := Tryd.sizeOf122, v139 := Tryd.zeroValue122, g3 := by kernel_rfl, g4 := by kernel_rfl }
/-- The tables' cells. -/
def Tabs (w : World) : Prop := Lib.Utf8Tabs 0 1 w
theorem Tabs.below {w w' : World} {B : Nat} (h : Tabs w) (hb : Below B w w') (hB : w.heap.size ≤ B) : Tabs w' := by
  have k : ∀ {p : Addr} {v : Value}, w.cell? p = some v → w'.cell? p = some v := fun {p v} hc => by
    have hlt := World.block_lt_of_cell? w _ hc
    rw [hb.cell (by omega)]
    exact hc
  exact ⟨fun c hc => k (h.1 c hc), fun i hi => ⟨k (h.2 i hi).1, k (h.2 i hi).2⟩⟩
theorem decode_any (s : ByteArray) (w : World) (hT : Tabs w) :
    Calls Tryd.prog 68 #[.string s] w fun e w' => e = .returned (.tuple #[.int .i32 (Lib.decodeGo s).1, .int .i64 (Lib.decodeGo s).2]) ∧ Below w.heap.size w w' :=
  Any.utf8_DecodeRuneInString laysU s w hT
theorem extraU : U8Extra Tryd.prog renU := { n3 := by kernel_rfl, n4 := by kernel_rfl, y3 := by kernel_rfl, y4 := by kernel_rfl, c5 := by kernel_rfl, c119 := by kernel_rfl, c138 := by kernel_rfl }
theorem tabs_of {w : World} {n3 n4 : String} {L : List (String × DataW Unit)} (h : laidMetH Tryd.prog L w) (hp : (L.all fun x => x.2.handleName?.isNone) = true) (m4 : (n4, Rows.laid_unicode_utf8_acceptRanges) ∈ L) (m3 : (n3, Rows.laid_unicode_utf8_first) ∈ L)
    (e3' : Lib.VarReads Tryd.prog w n3 Lib.firstData → Lib.VarReads Tryd.prog w n4 Lib.acceptData → Lib.Utf8Tabs (renU.g 3) (renU.g 4) w) : Tabs w := by
  rw [MakeChecks.laidMetH_plain _ _ _ hp] at h
  have h4 := Lib.laidMet.reads h (n := n4) (d := Rows.laid_unicode_utf8_acceptRanges) m4
  have h3 := Lib.laidMet.reads h (n := n3) (d := Rows.laid_unicode_utf8_first) m3
  have d4 : (Rows.laid_unicode_utf8_acceptRanges : DataW Unit) = Lib.acceptData := by kernel_rfl
  have d3 : Rows.laid_unicode_utf8_first = Lib.firstData := Pinned.utf8First_eq
  rw [d4] at h4
  rw [d3] at h3
  exact e3' h3 h4
end Go.Proofs.YtpdhmjjmpofphaaDoor

/- What the document's Letter, digit, inside, next, run and Name do. -/
namespace Go.Proofs.YtpdhmjjmpofphaaDoor
open Go.RowKit Go.Lib
set_option linter.unusedSimpArgs false
set_option linter.unusedVariables false

theorem refLetter_any (r : Int) (w : World) : Calls Tryd.prog 59 #[.int .i32 r] w fun e w' => e = .returned (.bool (letter r)) ∧ w = w' := by
  rw [letter_eq]
  go_enter Tryd.func59, Tryd.ntmps59
  go_wp2
  all_goals go_ret
  all_goals (refine ⟨ret_bool ?_, rfl⟩; first | rfl | (rw [Bool.eq_iff_iff]; simp; omega) | (rw [Bool.eq_iff_iff]; simp [*]; omega))
theorem refDigit_any (r : Int) (w : World) : Calls Tryd.prog 73 #[.int .i32 r] w fun e w' => e = .returned (.bool (dgt r)) ∧ w = w' := by
  rw [dgt_eq]
  go_enter Tryd.func73, Tryd.ntmps73
  go_wp2
  all_goals go_ret
  all_goals (refine ⟨ret_bool ?_, rfl⟩; first | rfl | (rw [Bool.eq_iff_iff]; simp; omega) | (rw [Bool.eq_iff_iff]; simp [*]; omega))
theorem refInside_any (r : Int) (w : World) : Calls Tryd.prog 69 #[.int .i32 r] w fun e w' => e = .returned (.bool (insd r)) ∧ w = w' := by
  have h1 := refLetter_any r w
  have h2 := refDigit_any r w
  have h3 : insd r = (letter r || dgt r || r == 95) := rfl
  rw [h3]
  cases ha : letter r <;> rw [ha] at h1
  · cases hb : dgt r <;> rw [hb] at h2
    · go_enter Tryd.func69, Tryd.ntmps69
      go_wp2_with (first
        | (go_at_call 59; refine h1.mono ?_; rintro e w' ⟨rfl, rfl⟩)
        | (go_at_call 73; refine h2.mono ?_; rintro e w' ⟨rfl, rfl⟩))
      go_ret
      exact ⟨ret_bool (by simp), rfl⟩
    · go_enter Tryd.func69, Tryd.ntmps69
      go_wp2_with (first
        | (go_at_call 59; refine h1.mono ?_; rintro e w' ⟨rfl, rfl⟩)
        | (go_at_call 73; refine h2.mono ?_; rintro e w' ⟨rfl, rfl⟩))
      go_ret
      exact ⟨ret_bool (by simp), rfl⟩
  · go_enter Tryd.func69, Tryd.ntmps69
    go_wp2_with (first
      | (go_at_call 59; refine h1.mono ?_; rintro e w' ⟨rfl, rfl⟩)
      | (go_at_call 73; refine h2.mono ?_; rintro e w' ⟨rfl, rfl⟩))
    go_ret
    exact ⟨ret_bool (by simp), rfl⟩

theorem decodeGo_nil {s : ByteArray} (h : bl s = []) : Lib.decodeGo s = (65533, 0) := by
  unfold Lib.decodeGo
  rw [if_pos]
  rw [← bl_length, h]; rfl
theorem decodeGo_eq {s : ByteArray} (h : bl s ≠ []) : Lib.decodeGo s = decodeL (bl s) := by
  unfold Lib.decodeGo
  rw [if_neg, ← decodeL_drop s 0, List.drop_zero]
  intro e
  exact h (List.eq_nil_of_length_eq_zero (by rw [bl_length]; exact e))

theorem refNext_any (s : ByteArray) (w : World) (hT : Tabs w) :
    Calls Tryd.prog 57 #[.string s] w fun e w' => e = .returned (tup2 (nx (bl s)).1 (nx (bl s)).2) ∧ Below w.heap.size w w' := by
  have h1 := decode_any s w hT
  obtain ⟨a, ha⟩ : ∃ a, (Lib.decodeGo s).1 = a := ⟨_, rfl⟩
  obtain ⟨b, hb⟩ : ∃ b, (Lib.decodeGo s).2 = b := ⟨_, rfl⟩
  rw [ha, hb] at h1
  have hn : nx (bl s) = if a = 65533 ∧ b ≤ 1 then (-1, b) else ((a : Int), b) := by
    by_cases hl : bl s = []
    · have := decodeGo_nil hl
      rw [this] at ha hb
      simp only at ha hb
      subst ha; subst hb
      rw [hl]; rfl
    · unfold nx
      rw [if_neg hl, ← decodeGo_eq hl, ha, hb]
  by_cases h1' : a = 65533
  · by_cases h2' : b ≤ 1
    · rw [hn, if_pos ⟨h1', h2'⟩]
      have e1 : ((a : Int) == 65533) = true := by simp; omega
      have e2 : (b : Int) ≤ 1 := by omega
      clear hn ha hb h1'
      go_enter Tryd.func57, Tryd.ntmps57
      go_wp2_with (first
        | (go_at_call 68; refine h1.mono ?_; rintro e w1 ⟨rfl, b1⟩))
      go_ret2
      exact ⟨rfl, b1⟩
    · rw [hn, if_neg (fun h => h2' h.2)]
      have e1 : ((a : Int) == 65533) = true := by simp; omega
      have e2 : ¬ (b : Int) ≤ 1 := by omega
      clear hn ha hb h1'
      go_enter Tryd.func57, Tryd.ntmps57
      go_wp2_with (first
        | (go_at_call 68; refine h1.mono ?_; rintro e w1 ⟨rfl, b1⟩))
      go_ret2
      exact ⟨rfl, b1⟩
  · rw [hn, if_neg (fun h => h1' h.1)]
    have e1 : ((a : Int) == 65533) = false := by simp; omega
    clear hn ha hb
    go_enter Tryd.func57, Tryd.ntmps57
    go_wp2_with (first
      | (go_at_call 68; refine h1.mono ?_; rintro e w1 ⟨rfl, b1⟩))
    go_ret2
    exact ⟨rfl, b1⟩

set_option maxHeartbeats 400000 in
theorem refRun_any (s : ByteArray) (w : World) (hT : Tabs w) (hs : s.size ≤ 140737488351232) :
    Calls Tryd.prog 58 #[.string s] w fun e w' => e = .returned (.tuple #[.int .i64 (spb (bl s) : Int), .int .i64 (spn (runes (bl s)) : Int)]) ∧ Below w.heap.size w w' := by
  go_enter Tryd.func58, Tryd.ntmps58
  go_wp2
  go_loopw [4, 5] (fun a b wr => ∃ (m k : Nat), a = .int .i64 (k : Int) ∧ b = .int .i64 (m : Int) ∧ Hid (Adv (bl s) m k) ∧ Below w.heap.size w wr) (fun a _ _ => s.size - (RowKit.intOf a).toNat)
  case atStart => exact ⟨0, 0, rfl, rfl, Adv.zero _, Below.refl _ _⟩
  case round =>
    obtain ⟨m, k, rfl, rfl, ha, hb⟩ := hrel
    have hle := ha.out.le
    have hfw := ha.out.few
    rw [bl_length] at hle
    have hTr := hT.below hb (Nat.le_refl _)
    by_cases hk : k < s.size
    · have hk' : (k : Int) < (s.size : Int) := by omega
      have hk0 : (0 : Int) ≤ (k : Int) := by omega
      have h20 := refNext_any (s.extract k s.size) _ hTr
      rw [bl_from] at h20
      have hne := drop_ne (l := bl s) (by rw [bl_length]; exact hk)
      have hps := nx_pos hne
      have hnl := nx_le hne
      rw [List.length_drop, bl_length] at hnl
      obtain ⟨r, hr⟩ : ∃ r, (nx ((bl s).drop k)).1 = r := ⟨_, rfl⟩
      obtain ⟨q, hq⟩ : ∃ q, (nx ((bl s).drop k)).2 = q := ⟨_, rfl⟩
      rw [hr, hq] at h20
      rw [hq] at hps hnl
      have hw : IntKind.i64.wrap ((k : Int) + (q : Int)) = (k : Int) + q := by rw [IntKind.wrap_i64]; omega
      have hw1 : IntKind.i64.wrap ((m : Int) + 1) = (m : Int) + 1 := by rw [IntKind.wrap_i64]; omega
      have h26 := fun w1 => refInside_any r w1
      cases hi : insd r with
      | true =>
        rw [hi] at h26
        have hA : Hid (Adv (bl s) (m + 1) (k + q)) := by have := ha.out.step (by rw [bl_length]; exact hk) (by rw [hr]; exact hi); rw [hq] at this; exact this
        clear hr hq hne hi hT hTr
        go_wp2_with (first
          | (go_at_call 57; refine h20.mono ?_; rintro e w1 ⟨rfl, b1⟩)
          | (go_at_call 69; refine (h26 _).mono ?_; rintro e w' ⟨rfl, rfl⟩))
        go_roundw
        case rel => exact ⟨m + 1, k + q, by go_num, by go_num, hA, hb.trans (b1.mono hb.size)⟩
        case measure => simp [RowKit.intOf]; omega
      | false =>
        rw [hi] at h26
        have hE : Hid (spn (runes (bl s)) = m) := ha.out.stop (.inr (by rw [hr]; exact hi))
        have hZ : Hid (spb (bl s) = k) := by show spb (bl s) = k; unfold spb; rw [hE.out]; exact ha.out.size
        clear hr hq hne hi hT hTr
        go_wp2_with (first
          | (go_at_call 57; refine h20.mono ?_; rintro e w1 ⟨rfl, b1⟩)
          | (go_at_call 69; refine (h26 _).mono ?_; rintro e w' ⟨rfl, rfl⟩))
        go_ret2
        rw [hE.out, hZ.out]
        exact ⟨rfl, hb.trans (b1.mono hb.size)⟩
    · have hk' : ¬ (k : Int) < (s.size : Int) := by omega
      have hE : Hid (spn (runes (bl s)) = m) := ha.out.stop (.inl (by rw [bl_length]; omega))
      have hZ : Hid (spb (bl s) = k) := by show spb (bl s) = k; unfold spb; rw [hE.out]; exact ha.out.size
      clear hT hTr
      go_wp2
      go_ret2
      rw [hE.out, hZ.out]
      exact ⟨rfl, hb⟩

set_option maxHeartbeats 400000 in
theorem refName_any (s : ByteArray) (w : World) (hT : Tabs w) (hs : s.size ≤ 140737488351232) :
    Calls Tryd.prog 40 #[.string s] w fun e w' => e = .returned (.bool (nameS (bl s))) ∧ Below w.heap.size w w' := by
  have h1 := refNext_any s w hT
  have h2 := fun w1 (hb : Below w.heap.size w w1) => refRun_any s w1 (hT.below hb (Nat.le_refl _)) hs
  have h3 : nameS (bl s) = (letter (nx (bl s)).1 && ((spb (bl s) : Int) == (s.size : Int)) && decide (spn (runes (bl s)) ≤ 24)) := rfl
  rw [h3]
  have h12 := fun w1 => refLetter_any (nx (bl s)).1 w1
  obtain ⟨r, hr⟩ : ∃ r, (nx (bl s)).1 = r := ⟨_, rfl⟩
  obtain ⟨q, hq⟩ : ∃ q, (nx (bl s)).2 = q := ⟨_, rfl⟩
  obtain ⟨k, hk⟩ : ∃ k, spb (bl s) = k := ⟨_, rfl⟩
  obtain ⟨m, hm⟩ : ∃ m, spn (runes (bl s)) = m := ⟨_, rfl⟩
  rw [hr] at h1 h12 ⊢
  rw [hq] at h1
  simp only [hk, hm] at h2 ⊢
  obtain ⟨a, ha⟩ : ∃ a, letter r = a := ⟨_, rfl⟩
  rw [ha] at h12 ⊢
  have e3 : decide (m ≤ 24) = decide ((m : Int) ≤ 24) := by rw [Bool.eq_iff_iff]; simp; omega
  rw [e3]
  clear h3 hr hq hk hm ha e3
  cases a
  · go_enter Tryd.func40, Tryd.ntmps40
    go_wp2_with (first
      | (go_at_call 57; refine h1.mono ?_; rintro e w1 ⟨rfl, b1⟩; have h2' := h2 w1 b1; clear h1 h2)
      | (go_at_call 58; refine h2'.mono ?_; rintro e w2 ⟨rfl, b2⟩; have b3 := b1.trans (b2.mono b1.size); clear h2' b1 b2)
      | (go_at_call 59; refine (h12 _).mono ?_; rintro e w' ⟨rfl, rfl⟩; clear h12))
    go_ret
    exact ⟨ret_bool (by simp), b3⟩
  · cases hkl : ((k : Int) == (s.size : Int))
    · go_enter Tryd.func40, Tryd.ntmps40
      go_wp2_with (first
        | (go_at_call 57; refine h1.mono ?_; rintro e w1 ⟨rfl, b1⟩; have h2' := h2 w1 b1; clear h1 h2)
        | (go_at_call 58; refine h2'.mono ?_; rintro e w2 ⟨rfl, b2⟩; have b3 := b1.trans (b2.mono b1.size); clear h2' b1 b2)
        | (go_at_call 59; refine (h12 _).mono ?_; rintro e w' ⟨rfl, rfl⟩; clear h12))
      go_ret
      exact ⟨ret_bool (by simp), b3⟩
    · go_enter Tryd.func40, Tryd.ntmps40
      go_wp2_with (first
        | (go_at_call 57; refine h1.mono ?_; rintro e w1 ⟨rfl, b1⟩; have h2' := h2 w1 b1; clear h1 h2)
        | (go_at_call 58; refine h2'.mono ?_; rintro e w2 ⟨rfl, b2⟩; have b3 := b1.trans (b2.mono b1.size); clear h2' b1 b2)
        | (go_at_call 59; refine (h12 _).mono ?_; rintro e w' ⟨rfl, rfl⟩; clear h12))
      all_goals go_ret
      all_goals exact ⟨ret_bool (by simp), b3⟩

theorem str_is (s : ByteArray) (x : List UInt8) : (s.toList == x) = (bl s == x) := by rw [ByteArray.toList_eq]

set_option maxHeartbeats 1000000 in
theorem operator_any (s : ByteArray) (w : World) : Calls Tryd.prog 41 #[.string s] w fun e w' => e = .returned (.bool (opr s)) ∧ w = w' := by
  have hS := str_is s
  obtain ⟨l, hl⟩ : ∃ l, bl s = l := ⟨_, rfl⟩
  have ho : opr s = ops9.any (fun x => l == x) := by rw [← hl]; rfl
  rw [ho]
  simp only [hl] at hS
  clear hl ho
  obtain ⟨L, hL⟩ : ∃ L, s.toList = L := ⟨_, rfl⟩
  have q0 : (s.toList == [43]) = (l == [43]) := hS _
  have q1 : (s.toList == [45]) = (l == [45]) := hS _
  have q2 : (s.toList == [42]) = (l == [42]) := hS _
  have q3 : (s.toList == [60]) = (l == [60]) := hS _
  have q4 : (s.toList == [60, 61]) = (l == [60, 61]) := hS _
  have q5 : (s.toList == [61, 61]) = (l == [61, 61]) := hS _
  have q6 : (s.toList == [33, 61]) = (l == [33, 61]) := hS _
  have q7 : (s.toList == [38, 38]) = (l == [38, 38]) := hS _
  have q8 : (s.toList == [124, 124]) = (l == [124, 124]) := hS _
  clear hS hL
  simp only [ops9, List.any_cons, List.any_nil, Bool.or_false]
  cases r0 : (l == [43])
  case true => rw [r0] at q0; clear q1 q2 q3 q4 q5 q6 q7 q8; go_enter Tryd.func41, Tryd.ntmps41; go_wp2; go_ret; exact ⟨ret_bool (by simp), rfl⟩
  cases r1 : (l == [45])
  case true => rw [r0] at q0; rw [r1] at q1; clear q2 q3 q4 q5 q6 q7 q8; go_enter Tryd.func41, Tryd.ntmps41; go_wp2; go_ret; exact ⟨ret_bool (by simp), rfl⟩
  rw [r0] at q0; rw [r1] at q1
  cases r2 : (l == [42])
  case true => rw [r2] at q2; clear q3 q4 q5 q6 q7 q8; go_enter Tryd.func41, Tryd.ntmps41; go_wp2; go_ret; exact ⟨ret_bool (by simp), rfl⟩
  rw [r2] at q2
  cases r3 : (l == [60])
  case true => rw [r3] at q3; clear q4 q5 q6 q7 q8; go_enter Tryd.func41, Tryd.ntmps41; go_wp2; go_ret; exact ⟨ret_bool (by simp), rfl⟩
  rw [r3] at q3
  cases r4 : (l == [60, 61])
  case true => rw [r4] at q4; clear q5 q6 q7 q8; go_enter Tryd.func41, Tryd.ntmps41; go_wp2; go_ret; exact ⟨ret_bool (by simp), rfl⟩
  rw [r4] at q4
  cases r5 : (l == [61, 61])
  case true => rw [r5] at q5; clear q6 q7 q8; go_enter Tryd.func41, Tryd.ntmps41; go_wp2; go_ret; exact ⟨ret_bool (by simp), rfl⟩
  rw [r5] at q5
  cases r6 : (l == [33, 61])
  case true => rw [r6] at q6; clear q7 q8; go_enter Tryd.func41, Tryd.ntmps41; go_wp2; go_ret; exact ⟨ret_bool (by simp), rfl⟩
  rw [r6] at q6
  cases r7 : (l == [38, 38])
  case true => rw [r7] at q7; clear q8; go_enter Tryd.func41, Tryd.ntmps41; go_wp2; go_ret; exact ⟨ret_bool (by simp), rfl⟩
  rw [r7] at q7
  cases r8 : (l == [124, 124])
  case true => rw [r8] at q8; go_enter Tryd.func41, Tryd.ntmps41; go_wp2; go_ret; exact ⟨ret_bool (by simp), rfl⟩
  rw [r8] at q8
  go_enter Tryd.func41, Tryd.ntmps41
  go_wp2
  go_ret
  exact ⟨ret_bool (by simp), rfl⟩

def SoundC (d : Nat) : Prop := ∀ (ok : Nat → Prop) (t : T d) (v : Value) (w : World), Tabs w → RdT ok w d t v → shrt 1000 d t = true →
  Calls Tryd.prog 32 #[v] w fun e w' => e = .returned (.bool (sdC d t)) ∧ Below w.heap.size w w'

set_option maxRecDepth 100000 in
set_option maxHeartbeats 4000000 in
theorem sound_step (d : Nat) (IH : SoundC d) : SoundC (d + 1) := by
  intro ok t v w hT h hsh
  obtain ⟨k, n, s, ps, rfl⟩ := T.open t
  obtain ⟨sl, rfl, hp⟩ := rdT_mk.1 h
  obtain ⟨a, cap, rfl, hlc, hcm, hcell⟩ := hp.form
  rw [shrt_mk] at hsh
  simp only [Bool.and_eq_true, decide_eq_true_eq, List.all_eq_true] at hsh
  rw [sdC_mk]
  have HC : Hid (∀ (i : Nat) (hi : i < ps.length), ∃ b off c0 c1 c2 c3, a = some ⟨b, off, none⟩ ∧ b < w.heap.size ∧ RdT ok w d ps[i] (.agg #[c0, c1, c2, c3]) ∧ w.cell? ⟨b, off + i * 4, none⟩ = some c0 ∧ w.cell? ⟨b, off + i * 4 + 1, none⟩ = some c1 ∧ w.cell? ⟨b, off + i * 4 + 2, none⟩ = some c2 ∧ w.cell? ⟨b, off + i * 4 + 3, none⟩ = some c3) := hcell
  have HP : Hid (∀ (i : Nat) (hi : i < ps.length), shrt 1000 d ps[i] = true) := fun i hi => hsh.2 _ (List.getElem_mem hi)
  have hss := hsh.1
  clear hcell h hp hsh
  have hb0 := (Below.refl w.heap.size w).alloc (Nat.le_refl _) (.cells #[.int .i64 k, .int .i64 n, .string s, .slice a ps.length cap] 24)
  by_cases k1 : k = 1
  · subst k1
    rw [if_pos rfl]
    clear HC HP hT
    go_enter Tryd.func32, Tryd.ntmps32
    go_wp2
    all_goals go_ret
    all_goals (refine ⟨ret_bool ?_, hb0⟩; first | rfl | (rw [Bool.eq_iff_iff]; simp; omega) | (rw [Bool.eq_iff_iff]; simp [*]; omega) | simp [*])
  rw [if_neg k1]
  have e1 : (k == 1) = false := beq_eq_false_iff_ne.2 k1
  by_cases k2 : k = 2
  · subst k2
    rw [if_pos rfl]
    have hn := refName_any s _ (hT.below hb0 (Nat.le_refl _)) (by omega)
    obtain ⟨z, hz⟩ : ∃ z, nameS (bl s) = z := ⟨_, rfl⟩
    rw [hz] at hn ⊢
    clear HC HP hT hz k1 e1
    go_enter Tryd.func32, Tryd.ntmps32
    go_wp2_with (first
      | (go_at_call 40; refine hn.mono ?_; rintro e w1 ⟨rfl, b1⟩))
    go_ret
    exact ⟨rfl, hb0.trans (b1.mono hb0.size)⟩
  rw [if_neg k2]
  have e2 : (k == 2) = false := beq_eq_false_iff_ne.2 k2
  by_cases k3 : k = 3
  · subst k3
    rw [if_pos (.inl rfl)]
    clear k1 k2 e1 e2 hb0
    have hE : ∃ V, ps.all (sdC d) = V := ⟨_, rfl⟩
    obtain ⟨V, hV⟩ := hE
    have HV : Hid (ps.all (sdC d) = V) := hV
    rw [hV]
    clear hV
    go_enter Tryd.func32, Tryd.ntmps32
    go_wp2
    go_loopw [37] (fun i wr => ∃ (j : Nat), j ≤ ps.length ∧ i = .int .i64 (j : Int) ∧ Hid ((ps.take j).all (sdC d) = true) ∧ At4 wr w.heap.size (.int .i64 3) (.int .i64 n) (.string s) (.slice a ps.length cap) ∧ Below w.heap.size w wr) (fun i _ => ps.length - (RowKit.intOf i).toNat)
    case atStart => exact ⟨0, Nat.zero_le _, rfl, rfl, At4.new _ _ _ _ _ _, (Below.refl _ _).alloc (Nat.le_refl _) _⟩
    case round =>
      obtain ⟨j, hj, rfl, hal, hA, hb⟩ := hrel
      obtain ⟨y0, y1, y2, y3⟩ := id hA
      by_cases hlt : j < ps.length
      · obtain ⟨b, off, c0, c1, c2, c3, rfl, hbl, hr, k0, k1, k2, k3⟩ := HC.out j hlt
        have C0 := (hb.cell (p := ⟨b, off + j * 4, none⟩) hbl).trans k0
        have C1 := (hb.cell (p := ⟨b, off + j * 4 + 1, none⟩) hbl).trans k1
        have C2 := (hb.cell (p := ⟨b, off + j * 4 + 2, none⟩) hbl).trans k2
        have C3 := (hb.cell (p := ⟨b, off + j * 4 + 3, none⟩) hbl).trans k3
        have hcall := IH ok ps[j] _ wr (hT.below hb (Nat.le_refl _)) (RdT.below hb (Nat.le_refl _) hr) (HP.out j hlt)
        have hst := all_take_succ (sdC d) ps j hlt hal.out
        have hno := all_not (sdC d) ps j hlt
        obtain ⟨z, hz⟩ : ∃ z, sdC d ps[j] = z := ⟨_, rfl⟩
        rw [hz] at hcall hst hno
        have i1 : (j : Int) < (ps.length : Int) := by omega
        have i2 : (0 : Int) ≤ (j : Int) := by omega
        clear k0 k1 k2 k3 hr hbl hz hT
        cases z with
        | true =>
          have hN : Hid ((ps.take (j + 1)).all (sdC d) = true) := hst rfl
          clear hst hno
          go_wp2_with (first
            | (go_at_call 32; refine hcall.mono ?_; rintro e w1 ⟨rfl, b1⟩))
          go_roundw
          case rel => exact ⟨j + 1, hlt, by go_num, hN, hA.keepB b1 (World.block_lt_of_cell? wr _ y0), hb.trans (b1.mono hb.size)⟩
          case measure => simp [RowKit.intOf]; omega
        | false =>
          have hF : V = false := by rw [← HV.out]; exact hno rfl
          subst hF
          clear hst hno
          go_wp2_with (first
            | (go_at_call 32; refine hcall.mono ?_; rintro e w1 ⟨rfl, b1⟩))
          go_ret
          exact ⟨ret_bool (by simp), hb.trans (b1.mono hb.size)⟩
      · have i1 : ¬ (j : Int) < (ps.length : Int) := by omega
        have hF : V = true := by rw [← HV.out]; have := hal.out; rw [List.take_of_length_le (by omega)] at this; exact this
        subst hF
        clear hT
        go_wp2
        go_ret
        exact ⟨ret_bool (by simp), hb⟩
  have e3 : (k == 3) = false := beq_eq_false_iff_ne.2 k3
  by_cases k4 : k = 4
  · subst k4
    rw [if_pos (.inr rfl)]
    clear k1 k2 e1 e2 k3 e3 hb0
    have hE : ∃ V, ps.all (sdC d) = V := ⟨_, rfl⟩
    obtain ⟨V, hV⟩ := hE
    have HV : Hid (ps.all (sdC d) = V) := hV
    rw [hV]
    clear hV
    go_enter Tryd.func32, Tryd.ntmps32
    go_wp2
    go_loopw [37] (fun i wr => ∃ (j : Nat), j ≤ ps.length ∧ i = .int .i64 (j : Int) ∧ Hid ((ps.take j).all (sdC d) = true) ∧ At4 wr w.heap.size (.int .i64 4) (.int .i64 n) (.string s) (.slice a ps.length cap) ∧ Below w.heap.size w wr) (fun i _ => ps.length - (RowKit.intOf i).toNat)
    case atStart => exact ⟨0, Nat.zero_le _, rfl, rfl, At4.new _ _ _ _ _ _, (Below.refl _ _).alloc (Nat.le_refl _) _⟩
    case round =>
      obtain ⟨j, hj, rfl, hal, hA, hb⟩ := hrel
      obtain ⟨y0, y1, y2, y3⟩ := id hA
      by_cases hlt : j < ps.length
      · obtain ⟨b, off, c0, c1, c2, c3, rfl, hbl, hr, k0, k1, k2, k3⟩ := HC.out j hlt
        have C0 := (hb.cell (p := ⟨b, off + j * 4, none⟩) hbl).trans k0
        have C1 := (hb.cell (p := ⟨b, off + j * 4 + 1, none⟩) hbl).trans k1
        have C2 := (hb.cell (p := ⟨b, off + j * 4 + 2, none⟩) hbl).trans k2
        have C3 := (hb.cell (p := ⟨b, off + j * 4 + 3, none⟩) hbl).trans k3
        have hcall := IH ok ps[j] _ wr (hT.below hb (Nat.le_refl _)) (RdT.below hb (Nat.le_refl _) hr) (HP.out j hlt)
        have hst := all_take_succ (sdC d) ps j hlt hal.out
        have hno := all_not (sdC d) ps j hlt
        obtain ⟨z, hz⟩ : ∃ z, sdC d ps[j] = z := ⟨_, rfl⟩
        rw [hz] at hcall hst hno
        have i1 : (j : Int) < (ps.length : Int) := by omega
        have i2 : (0 : Int) ≤ (j : Int) := by omega
        clear k0 k1 k2 k3 hr hbl hz hT
        cases z with
        | true =>
          have hN : Hid ((ps.take (j + 1)).all (sdC d) = true) := hst rfl
          clear hst hno
          go_wp2_with (first
            | (go_at_call 32; refine hcall.mono ?_; rintro e w1 ⟨rfl, b1⟩))
          go_roundw
          case rel => exact ⟨j + 1, hlt, by go_num, hN, hA.keepB b1 (World.block_lt_of_cell? wr _ y0), hb.trans (b1.mono hb.size)⟩
          case measure => simp [RowKit.intOf]; omega
        | false =>
          have hF : V = false := by rw [← HV.out]; exact hno rfl
          subst hF
          clear hst hno
          go_wp2_with (first
            | (go_at_call 32; refine hcall.mono ?_; rintro e w1 ⟨rfl, b1⟩))
          go_ret
          exact ⟨ret_bool (by simp), hb.trans (b1.mono hb.size)⟩
      · have i1 : ¬ (j : Int) < (ps.length : Int) := by omega
        have hF : V = true := by rw [← HV.out]; have := hal.out; rw [List.take_of_length_le (by omega)] at this; exact this
        subst hF
        clear hT
        go_wp2
        go_ret
        exact ⟨ret_bool (by simp), hb⟩
  rw [if_neg (by omega)]
  have e4 : (k == 4) = false := beq_eq_false_iff_ne.2 k4
  by_cases k5 : k = 5
  · subst k5
    rw [if_pos rfl]
    have hop := fun w1 => operator_any s w1
    clear k1 k2 e1 e2 k3 e3 k4 e4
    cases ho : opr s with
    | false =>
      simp only [ho] at hop
      clear HC HP hT
      go_enter Tryd.func32, Tryd.ntmps32
      go_wp2_with (first
        | (go_at_call 41; refine (hop _).mono ?_; rintro e w1 ⟨rfl, rfl⟩))
      go_ret
      exact ⟨ret_bool (by simp), hb0⟩
    | true =>
      simp only [ho] at hop
      rw [Bool.true_and]
      clear ho hb0
      have hE : ∃ V, ps.all (sdC d) = V := ⟨_, rfl⟩
      obtain ⟨V, hV⟩ := hE
      have HV : Hid (ps.all (sdC d) = V) := hV
      rw [hV]
      clear hV
      go_enter Tryd.func32, Tryd.ntmps32
      go_wp2_with (first | (go_at_call 41; refine (hop _).mono ?_; rintro e w1 ⟨rfl, rfl⟩))
      go_loopw [37] (fun i wr => ∃ (j : Nat), j ≤ ps.length ∧ i = .int .i64 (j : Int) ∧ Hid ((ps.take j).all (sdC d) = true) ∧ At4 wr w.heap.size (.int .i64 5) (.int .i64 n) (.string s) (.slice a ps.length cap) ∧ Below w.heap.size w wr) (fun i _ => ps.length - (RowKit.intOf i).toNat)
      case atStart => exact ⟨0, Nat.zero_le _, rfl, rfl, At4.new _ _ _ _ _ _, (Below.refl _ _).alloc (Nat.le_refl _) _⟩
      case round =>
        obtain ⟨j, hj, rfl, hal, hA, hb⟩ := hrel
        obtain ⟨y0, y1, y2, y3⟩ := id hA
        by_cases hlt : j < ps.length
        · obtain ⟨b, off, c0, c1, c2, c3, rfl, hbl, hr, k0, k1, k2, k3⟩ := HC.out j hlt
          have C0 := (hb.cell (p := ⟨b, off + j * 4, none⟩) hbl).trans k0
          have C1 := (hb.cell (p := ⟨b, off + j * 4 + 1, none⟩) hbl).trans k1
          have C2 := (hb.cell (p := ⟨b, off + j * 4 + 2, none⟩) hbl).trans k2
          have C3 := (hb.cell (p := ⟨b, off + j * 4 + 3, none⟩) hbl).trans k3
          have hcall := IH ok ps[j] _ wr (hT.below hb (Nat.le_refl _)) (RdT.below hb (Nat.le_refl _) hr) (HP.out j hlt)
          have hst := all_take_succ (sdC d) ps j hlt hal.out
          have hno := all_not (sdC d) ps j hlt
          obtain ⟨z, hz⟩ : ∃ z, sdC d ps[j] = z := ⟨_, rfl⟩
          rw [hz] at hcall hst hno
          have i1 : (j : Int) < (ps.length : Int) := by omega
          have i2 : (0 : Int) ≤ (j : Int) := by omega
          clear k0 k1 k2 k3 hr hbl hz hT
          cases z with
          | true =>
            have hN : Hid ((ps.take (j + 1)).all (sdC d) = true) := hst rfl
            clear hst hno
            go_wp2_with (first
              | (go_at_call 32; refine hcall.mono ?_; rintro e w1 ⟨rfl, b1⟩))
            go_roundw
            case rel => exact ⟨j + 1, hlt, by go_num, hN, hA.keepB b1 (World.block_lt_of_cell? wr _ y0), hb.trans (b1.mono hb.size)⟩
            case measure => simp [RowKit.intOf]; omega
          | false =>
            have hF : V = false := by rw [← HV.out]; exact hno rfl
            subst hF
            clear hst hno
            go_wp2_with (first
              | (go_at_call 32; refine hcall.mono ?_; rintro e w1 ⟨rfl, b1⟩))
            go_ret
            exact ⟨ret_bool (by simp), hb.trans (b1.mono hb.size)⟩
        · have i1 : ¬ (j : Int) < (ps.length : Int) := by omega
          have hF : V = true := by rw [← HV.out]; have := hal.out; rw [List.take_of_length_le (by omega)] at this; exact this
          subst hF
          clear hT
          go_wp2
          go_ret
          exact ⟨ret_bool (by simp), hb⟩
  rw [if_neg k5]
  have e5 : (k == 5) = false := beq_eq_false_iff_ne.2 k5
  clear HC HP hT
  go_enter Tryd.func32, Tryd.ntmps32
  go_wp2
  go_ret
  exact ⟨rfl, hb0⟩
theorem sound_any : ∀ (d : Nat), SoundC d
  | 0 => fun _ t => Empty.elim t
  | d + 1 => sound_step d (sound_any d)

set_option maxHeartbeats 1000000 in
theorem formed_any {ok : Nat → Prop} {d : Nat} {t : T d} {v : Value} {w : World} (hT : Tabs w) (h : RdT ok w d t v) (hc : cnt d t ≤ 100000) (hsh : shrt 1000 d t = true) :
    Calls Tryd.prog 18 #[v] w fun e w' => e = .returned (.bool (fmC d t)) ∧ Below w.heap.size w w' := by
  match d, t, h, hc, hsh with
  | 0, t, h, _, _ => exact Empty.elim t
  | d + 1, t, h, hc, hsh =>
    obtain ⟨k, n, s, ps, rfl⟩ := T.open t
    have h0 := h
    obtain ⟨sl, rfl, hp⟩ := rdT_mk.1 h
    have hb0 := (Below.refl w.heap.size w).alloc (Nat.le_refl _) (.cells #[.int .i64 k, .int .i64 n, .string s, sl] 24)
    have hA := At4.new w (.int .i64 k) (.int .i64 n) (.string s) sl 24
    have h1 := nodes_any (d + 1) ok (mkT k n s ps) _ _ (RdT.below hb0 (Nat.le_refl _) h0) hc
    have h2 := fun w1 (b1 : Below w.heap.size w w1) => deep_any (d + 1) ok (mkT k n s ps) _ w1 (RdT.below b1 (Nat.le_refl _) h0) hc
    have h3 := fun w1 (b1 : Below w.heap.size w w1) => sound_any (d + 1) ok (mkT k n s ps) _ w1 (hT.below b1 (Nat.le_refl _)) (RdT.below b1 (Nat.le_refl _) h0) hsh
    unfold fmC
    obtain ⟨x, hx⟩ : ∃ x, ndC (d + 1) (mkT k n s ps) = x := ⟨_, rfl⟩
    obtain ⟨y, hy⟩ : ∃ y, dpC (d + 1) (mkT k n s ps) = y := ⟨_, rfl⟩
    obtain ⟨z, hz⟩ : ∃ z, sdC (d + 1) (mkT k n s ps) = z := ⟨_, rfl⟩
    rw [hx] at h1 ⊢
    simp only [hy] at h2 ⊢
    simp only [hz] at h3 ⊢
    clear hx hy hz h0 hp hT hsh hc
    by_cases c1 : x ≤ 40
    · have f1 : (x : Int) ≤ 40 := by omega
      by_cases c2 : y ≤ 12
      · have f2 : (y : Int) ≤ 12 := by omega
        go_enter Tryd.func18, Tryd.ntmps18
        go_wp2_with (first
          | (go_at_call 30; refine h1.mono ?_; rintro e w1 ⟨rfl, b1⟩; have bb1 := hb0.trans (b1.mono hb0.size); have hA1 := hA.keepB b1 (by simp); obtain ⟨y0, y1, y2, y3⟩ := id hA1; have h2' := h2 w1 bb1; clear h1 h2)
          | (go_at_call 31; refine h2'.mono ?_; rintro e w2 ⟨rfl, b2⟩; have bb2 := bb1.trans (b2.mono bb1.size); obtain ⟨z0, z1, z2, z3⟩ := hA1.keepB b2 (World.block_lt_of_cell? w1 _ y0); have h3' := h3 w2 bb2; clear h2' h3 y0 y1 y2 y3)
          | (go_at_call 32; refine h3'.mono ?_; rintro e w3 ⟨rfl, b3⟩; have bb3 := bb2.trans (b3.mono bb2.size); clear h3' z0 z1 z2 z3))
        go_ret
        exact ⟨ret_bool (by simp [c1, c2]), bb3⟩
      · have f2 : ¬ (y : Int) ≤ 12 := by omega
        go_enter Tryd.func18, Tryd.ntmps18
        go_wp2_with (first
          | (go_at_call 30; refine h1.mono ?_; rintro e w1 ⟨rfl, b1⟩; have bb1 := hb0.trans (b1.mono hb0.size); obtain ⟨y0, y1, y2, y3⟩ := hA.keepB b1 (by simp); have h2' := h2 w1 bb1; clear h1 h2)
          | (go_at_call 31; refine h2'.mono ?_; rintro e w2 ⟨rfl, b2⟩; have bb2 := bb1.trans (b2.mono bb1.size); clear h2'))
        go_ret
        exact ⟨ret_bool (by simp [c1, c2]), bb2⟩
    · have f1 : ¬ (x : Int) ≤ 40 := by omega
      go_enter Tryd.func18, Tryd.ntmps18
      go_wp2_with (first
        | (go_at_call 30; refine h1.mono ?_; rintro e w1 ⟨rfl, b1⟩; have bb1 := hb0.trans (b1.mono hb0.size); clear h1))
      go_ret
      exact ⟨ret_bool (by simp [c1]), bb1⟩




def RefsC (d : Nat) : Prop := ∀ (ok : Nat → Prop) (t : T d) (v lv : Value) (ls : List ByteArray) (w : World), RdT ok w d t v → RdS w lv ls → ls.length + cnt d t ≤ 1000 →
  Calls Tryd.prog 33 #[v, lv] w fun e w' => ∃ u, e = .returned u ∧ RdS w' u (rfC d t ls) ∧ Below w.heap.size w w'

set_option maxRecDepth 100000 in
set_option maxHeartbeats 2000000 in
theorem refs_step (d : Nat) (IH : RefsC d) : RefsC (d + 1) := by
  intro ok t v lv ls w h hS0 hlen
  obtain ⟨k, n, s, ps, rfl⟩ := T.open t
  obtain ⟨sl, rfl, hp⟩ := rdT_mk.1 h
  obtain ⟨a, cap, rfl, hlc, hcm, hcell⟩ := hp.form
  rw [cnt_mk] at hlen
  have HC : Hid (∀ (i : Nat) (hi : i < ps.length), ∃ b off c0 c1 c2 c3, a = some ⟨b, off, none⟩ ∧ b < w.heap.size ∧ RdT ok w d ps[i] (.agg #[c0, c1, c2, c3]) ∧ w.cell? ⟨b, off + i * 4, none⟩ = some c0 ∧ w.cell? ⟨b, off + i * 4 + 1, none⟩ = some c1 ∧ w.cell? ⟨b, off + i * 4 + 2, none⟩ = some c2 ∧ w.cell? ⟨b, off + i * 4 + 3, none⟩ = some c3) := hcell
  clear hcell h hp
  have hb0 := (Below.refl w.heap.size w).alloc (Nat.le_refl _) (.cells #[.int .i64 k, .int .i64 n, .string s, .slice a ps.length cap] 24)
  have hA0 := At4.new w (.int .i64 k) (.int .i64 n) (.string s) (.slice a ps.length cap) 24
  rw [rfC_mk]
  by_cases k2 : k = 2
  · subst k2
    rw [if_pos rfl]
    obtain ⟨R, hR⟩ : ∃ R, ps.foldl (fun a p => rfC d p a) (adS ls s) = R := ⟨_, rfl⟩
    rw [hR]
    have HR : Hid ((ps.drop 0).foldl (fun a p => rfC d p a) (adS ls s) = R) := hR
    have hal := adS_len ls s
    have HL : Hid ((adS ls s).length + ((ps.drop 0).map (cnt d)).sum ≤ 1000) := by show _ ≤ _; rw [List.drop_zero]; omega
    have hadd := add_any ls s lv _ (hS0.below hb0 (Nat.le_refl _)) (by omega)
    clear hR hal hlen
    go_enter Tryd.func33, Tryd.ntmps33
    go_wp2_with (first
      | (go_at_call 42; refine hadd.mono ?_; rintro e w1 ⟨u, rfl, hS1, b1⟩; have bb1 := hb0.trans (b1.mono hb0.size); have hA1 := hA0.keepB b1 (by simp); obtain ⟨q0, q1, q2, q3⟩ := id hA1; clear hadd))
    clear q0 q1 q2 q3
    go_loopw [1, 16] (fun l i wr => ∃ (j : Nat) (cur : List ByteArray), j ≤ ps.length ∧ i = .int .i64 (j : Int) ∧ RdS wr l cur ∧ Hid ((ps.drop j).foldl (fun a p => rfC d p a) cur = R) ∧ Hid (cur.length + ((ps.drop j).map (cnt d)).sum ≤ 1000) ∧ At4 wr w.heap.size (.int .i64 2) (.int .i64 n) (.string s) (.slice a ps.length cap) ∧ Below w.heap.size w wr) (fun _ i _ => ps.length - (RowKit.intOf i).toNat)
    case atStart => exact ⟨0, _, Nat.zero_le _, rfl, hS1, HR, HL, hA1, bb1⟩
    case round =>
      obtain ⟨j, cur, hj, rfl, hS, hfo, hle, hA, hb⟩ := hrel
      obtain ⟨y0, y1, y2, y3⟩ := id hA
      by_cases hlt : j < ps.length
      · obtain ⟨b, off, c0, c1, c2, c3, rfl, hbl, hr, k0, k1, k2, k3⟩ := HC.out j hlt
        have C0 := (hb.cell (p := ⟨b, off + j * 4, none⟩) hbl).trans k0
        have C1 := (hb.cell (p := ⟨b, off + j * 4 + 1, none⟩) hbl).trans k1
        have C2 := (hb.cell (p := ⟨b, off + j * 4 + 2, none⟩) hbl).trans k2
        have C3 := (hb.cell (p := ⟨b, off + j * 4 + 3, none⟩) hbl).trans k3
        have hfo2 := hfo.out
        have hle2 := hle.out
        rw [List.drop_eq_getElem_cons hlt] at hfo2 hle2
        rw [List.foldl_cons] at hfo2
        rw [List.map_cons, List.sum_cons] at hle2
        have hcall := IH ok ps[j] _ _ cur wr (RdT.below hb (Nat.le_refl _) hr) hS (by omega)
        have hgr := rfC_len d ps[j] cur
        have hN : Hid ((ps.drop (j + 1)).foldl (fun a p => rfC d p a) (rfC d ps[j] cur) = R) := hfo2
        have hM : Hid ((rfC d ps[j] cur).length + ((ps.drop (j + 1)).map (cnt d)).sum ≤ 1000) := by show _ ≤ _; omega
        have i1 : (j : Int) < (ps.length : Int) := by omega
        have i2 : (0 : Int) ≤ (j : Int) := by omega
        clear k0 k1 k2 k3 hr hbl hfo2 hle2 hgr
        go_wp2_with (first
          | (go_at_call 33; refine hcall.mono ?_; rintro e w1 ⟨u, rfl, hS1, b1⟩))
        go_roundw
        case rel => exact ⟨j + 1, _, hlt, by go_num, hS1, hN, hM, hA.keepB b1 (World.block_lt_of_cell? wr _ y0), hb.trans (b1.mono hb.size)⟩
        case measure => simp [RowKit.intOf]; omega
      · have i1 : ¬ (j : Int) < (ps.length : Int) := by omega
        have hfo2 := hfo.out
        rw [List.drop_eq_nil_of_le (by omega)] at hfo2
        have hR2 : cur = R := hfo2
        subst hR2
        clear hfo2
        go_wp2
        go_ret
        exact ⟨_, rfl, hS, hb⟩
  · rw [if_neg k2]
    have e2 : (k == 2) = false := beq_eq_false_iff_ne.2 k2
    obtain ⟨R, hR⟩ : ∃ R, ps.foldl (fun a p => rfC d p a) ls = R := ⟨_, rfl⟩
    rw [hR]
    have HR : Hid ((ps.drop 0).foldl (fun a p => rfC d p a) ls = R) := hR
    have HL : Hid (ls.length + ((ps.drop 0).map (cnt d)).sum ≤ 1000) := by show _ ≤ _; rw [List.drop_zero]; omega
    have hS1 := hS0.below hb0 (Nat.le_refl _)
    clear hR hlen
    go_enter Tryd.func33, Tryd.ntmps33
    go_wp2
    go_loopw [1, 16] (fun l i wr => ∃ (j : Nat) (cur : List ByteArray), j ≤ ps.length ∧ i = .int .i64 (j : Int) ∧ RdS wr l cur ∧ Hid ((ps.drop j).foldl (fun a p => rfC d p a) cur = R) ∧ Hid (cur.length + ((ps.drop j).map (cnt d)).sum ≤ 1000) ∧ At4 wr w.heap.size (.int .i64 k) (.int .i64 n) (.string s) (.slice a ps.length cap) ∧ Below w.heap.size w wr) (fun _ i _ => ps.length - (RowKit.intOf i).toNat)
    case atStart => exact ⟨0, _, Nat.zero_le _, rfl, hS1, HR, HL, hA0, hb0⟩
    case round =>
      obtain ⟨j, cur, hj, rfl, hS, hfo, hle, hA, hb⟩ := hrel
      obtain ⟨y0, y1, y2, y3⟩ := id hA
      by_cases hlt : j < ps.length
      · obtain ⟨b, off, c0, c1, c2, c3, rfl, hbl, hr, k0, k1, k2, k3⟩ := HC.out j hlt
        have C0 := (hb.cell (p := ⟨b, off + j * 4, none⟩) hbl).trans k0
        have C1 := (hb.cell (p := ⟨b, off + j * 4 + 1, none⟩) hbl).trans k1
        have C2 := (hb.cell (p := ⟨b, off + j * 4 + 2, none⟩) hbl).trans k2
        have C3 := (hb.cell (p := ⟨b, off + j * 4 + 3, none⟩) hbl).trans k3
        have hfo2 := hfo.out
        have hle2 := hle.out
        rw [List.drop_eq_getElem_cons hlt] at hfo2 hle2
        rw [List.foldl_cons] at hfo2
        rw [List.map_cons, List.sum_cons] at hle2
        have hcall := IH ok ps[j] _ _ cur wr (RdT.below hb (Nat.le_refl _) hr) hS (by omega)
        have hgr := rfC_len d ps[j] cur
        have hN : Hid ((ps.drop (j + 1)).foldl (fun a p => rfC d p a) (rfC d ps[j] cur) = R) := hfo2
        have hM : Hid ((rfC d ps[j] cur).length + ((ps.drop (j + 1)).map (cnt d)).sum ≤ 1000) := by show _ ≤ _; omega
        have i1 : (j : Int) < (ps.length : Int) := by omega
        have i2 : (0 : Int) ≤ (j : Int) := by omega
        clear k0 k1 k2 k3 hr hbl hfo2 hle2 hgr
        go_wp2_with (first
          | (go_at_call 33; refine hcall.mono ?_; rintro e w1 ⟨u, rfl, hS1, b1⟩))
        go_roundw
        case rel => exact ⟨j + 1, _, hlt, by go_num, hS1, hN, hM, hA.keepB b1 (World.block_lt_of_cell? wr _ y0), hb.trans (b1.mono hb.size)⟩
        case measure => simp [RowKit.intOf]; omega
      · have i1 : ¬ (j : Int) < (ps.length : Int) := by omega
        have hfo2 := hfo.out
        rw [List.drop_eq_nil_of_le (by omega)] at hfo2
        have hR2 : cur = R := hfo2
        subst hR2
        clear hfo2
        go_wp2
        go_ret
        exact ⟨_, rfl, hS, hb⟩
theorem refs_any : ∀ (d : Nat), RefsC d
  | 0 => fun _ t => Empty.elim t
  | d + 1 => refs_step d (refs_any d)

set_option maxHeartbeats 1000000 in
/-- The names of any expression. -/
theorem refRefs_any {ok : Nat → Prop} {d : Nat} {t : T d} {v : Value} {w : World} (hT : Tabs w) (h : RdT ok w d t v) (hc : cnt d t ≤ 1000) (hsh : shrt 1000 d t = true) :
    Calls Tryd.prog 19 #[v] w fun e w' => ∃ u, e = .returned u ∧ RdS w' u (rfT d t) ∧ Below w.heap.size w w' := by
  match d, t, h, hc, hsh with
  | 0, t, _, _, _ => exact Empty.elim t
  | d + 1, t, h, hc, hsh =>
    obtain ⟨k, n, s, ps, rfl⟩ := T.open t
    have h0 := h
    obtain ⟨sl, rfl, hp⟩ := rdT_mk.1 h
    have hb0 := (Below.refl w.heap.size w).alloc (Nat.le_refl _) (.cells #[.int .i64 k, .int .i64 n, .string s, sl] 24)
    have hA := At4.new w (.int .i64 k) (.int .i64 n) (.string s) sl 24
    have h1 := formed_any (hT.below hb0 (Nat.le_refl _)) (RdT.below hb0 (Nat.le_refl _) h0) (by omega) hsh
    unfold rfT
    cases hf : fmC (d + 1) (mkT k n s ps) with
    | false =>
      rw [hf] at h1
      rw [if_neg (by decide)]
      clear hT h0 hp hf hA
      go_enter Tryd.func19, Tryd.ntmps19
      go_wp2_with (first
        | (go_at_call 18; refine h1.mono ?_; rintro e w1 ⟨rfl, b1⟩; have bb1 := hb0.trans (b1.mono hb0.size); clear h1))
      go_ret
      exact ⟨_, rfl, rdS_nil _, bb1⟩
    | true =>
      rw [hf] at h1
      rw [if_pos rfl]
      have h2 := fun w1 (b1 : Below w.heap.size w w1) => refs_any (d + 1) ok (mkT k n s ps) _ (.slice none 0 0) [] w1 (RdT.below b1 (Nat.le_refl _) h0) (rdS_nil w1) (by simpa using hc)
      clear hT h0 hp hf hc hsh
      go_enter Tryd.func19, Tryd.ntmps19
      go_wp2_with (first
        | (go_at_call 18; refine h1.mono ?_; rintro e w1 ⟨rfl, b1⟩; have bb1 := hb0.trans (b1.mono hb0.size); obtain ⟨y0, y1, y2, y3⟩ := hA.keepB b1 (by simp); have h2' := h2 w1 bb1; clear h1 h2)
        | (go_at_call 33; refine h2'.mono ?_; rintro e w2 ⟨u, rfl, hS2, b2⟩; have bb2 := bb1.trans (b2.mono bb1.size); clear h2' y0 y1 y2 y3))
      go_ret
      exact ⟨_, rfl, hS2, bb2⟩
end Go.Proofs.YtpdhmjjmpofphaaDoor

/- What the document's small and Small do. -/
namespace Go.Proofs.YtpdhmjjmpofphaaDoor
open Go.RowKit
set_option linter.unusedSimpArgs false
set_option linter.unusedVariables false

theorem thru_cons {α : Type} (g : α → Int → Int) (p : α) (r : List α) (x : Int) : thru g (p :: r) x = if g p x < 0 then -1 else thru g r (g p x) := rfl

/-- What small answers of trees so deep. -/
def SmallC (d : Nat) : Prop := ∀ (ok : Nat → Prop) (t : T d) (v : Value) (w : World) (dep : Nat) (left : Int), RdT ok w d t v → dep ≤ 61 → -1 ≤ left → left ≤ 200 →
    Calls Tryd.prog 12 #[v, .int .i64 (dep : Int), .int .i64 left] w fun e w' => e = .returned (.int .i64 (sml d t dep left)) ∧ Below w.heap.size w w'
set_option maxRecDepth 100000 in
set_option maxHeartbeats 1000000 in
theorem refSmall_step (d : Nat) (IH : SmallC d) : SmallC (d + 1) := by
  intro ok t v w dep left h hdep hl0 hl1
  obtain ⟨k, n, s, ps, rfl⟩ := T.open t
  obtain ⟨sl, rfl, hp⟩ := rdT_mk.1 h
  obtain ⟨a, cap, rfl, hlc, hcm, hcell⟩ := hp.form
  rw [sml_mk]
  by_cases c1 : 60 < dep
  · rw [if_pos (.inl c1)]
    have e1 : (dep : Int) > 60 := by omega
    clear IH hcell h hp
    go_enter Tryd.func12, Tryd.ntmps12
    go_wp2
    go_ret
    exact ⟨rfl, (Below.refl _ _).alloc (Nat.le_refl _) _⟩
  have e1 : ¬ (dep : Int) > 60 := by omega
  by_cases c2 : left - 1 < 0
  · rw [if_pos (.inr (.inl c2))]
    clear IH hcell h hp
    go_enter Tryd.func12, Tryd.ntmps12
    go_wp2
    go_ret
    exact ⟨rfl, (Below.refl _ _).alloc (Nat.le_refl _) _⟩
  by_cases c3 : 1000 < s.size
  · rw [if_pos (.inr (.inr c3))]
    have e3 : (s.size : Int) > 1000 := by omega
    clear IH hcell h hp
    go_enter Tryd.func12, Tryd.ntmps12
    go_wp2
    go_ret
    exact ⟨rfl, (Below.refl _ _).alloc (Nat.le_refl _) _⟩
  rw [if_neg (by omega)]
  have e3 : ¬ (s.size : Int) > 1000 := by omega
  obtain ⟨V, hV⟩ : ∃ V, thru (fun p x => sml d p (dep + 1) x) ps (left - 1) = V := ⟨_, rfl⟩
  rw [hV]
  have HV : Hid (thru (fun p x => sml d p (dep + 1) x) (ps.drop 0) (left - 1) = V) := hV
  have HC : Hid (∀ (i : Nat) (hi : i < ps.length), ∃ b off c0 c1 c2 c3, a = some ⟨b, off, none⟩ ∧ b < w.heap.size ∧ RdT ok w d ps[i] (.agg #[c0, c1, c2, c3]) ∧ w.cell? ⟨b, off + i * 4, none⟩ = some c0 ∧ w.cell? ⟨b, off + i * 4 + 1, none⟩ = some c1 ∧ w.cell? ⟨b, off + i * 4 + 2, none⟩ = some c2 ∧ w.cell? ⟨b, off + i * 4 + 3, none⟩ = some c3) := hcell
  clear hV hcell h hp
  go_enter Tryd.func12, Tryd.ntmps12
  go_wp2
  go_loopw [2, 25] (fun l i wr => ∃ (j : Nat) (L : Int), j ≤ ps.length ∧ i = .int .i64 (j : Int) ∧ l = .int .i64 L ∧ 0 ≤ L ∧ L ≤ 199 ∧ Hid (thru (fun p x => sml d p (dep + 1) x) (ps.drop j) L = V) ∧ At4 wr w.heap.size (.int .i64 k) (.int .i64 n) (.string s) (.slice a ps.length cap) ∧ Below w.heap.size w wr) (fun _ i _ => ps.length - (RowKit.intOf i).toNat)
  case atStart => exact ⟨0, left - 1, Nat.zero_le _, rfl, rfl, by omega, by omega, HV, At4.new _ _ _ _ _ _, (Below.refl _ _).alloc (Nat.le_refl _) _⟩
  case round =>
    obtain ⟨j, L, hj, rfl, rfl, hL0, hL1, hT, hA, hb⟩ := hrel
    obtain ⟨y0, y1, y2, y3⟩ := id hA
    by_cases hlt : j < ps.length
    · obtain ⟨b, off, c0, c1, c2, c3, rfl, hbl, hr, k0, k1, k2, k3⟩ := HC.out j hlt
      have C0 := (hb.cell (p := ⟨b, off + j * 4, none⟩) hbl).trans k0
      have C1 := (hb.cell (p := ⟨b, off + j * 4 + 1, none⟩) hbl).trans k1
      have C2 := (hb.cell (p := ⟨b, off + j * 4 + 2, none⟩) hbl).trans k2
      have C3 := (hb.cell (p := ⟨b, off + j * 4 + 3, none⟩) hbl).trans k3
      have hcall := IH ok ps[j] _ wr (dep + 1) L (RdT.below hb (Nat.le_refl _) hr) (by omega) (by omega) (by omega)
      have hTT := hT.out
      rw [List.drop_eq_getElem_cons hlt, thru_cons] at hTT
      have hok := sml_ok d ps[j] (dep + 1) L
      have hcp := cnt_pos d ps[j]
      obtain ⟨z, hz⟩ : ∃ z, sml d ps[j] (dep + 1) L = z := ⟨_, rfl⟩
      rw [hz] at hcall hTT hok
      have i1 : (j : Int) < (ps.length : Int) := by omega
      have i2 : (0 : Int) ≤ (j : Int) := by omega
      have hd1 : ((dep + 1 : Nat) : Int) = (dep : Int) + 1 := by omega
      rw [hd1] at hcall
      clear k0 k1 k2 k3 hr hbl
      by_cases hzn : z < 0
      · rw [if_pos hzn] at hTT
        subst hTT
        clear hok hz hd1
        go_wp2_with (first
          | (go_at_call 12; refine hcall.mono ?_; rintro e w1 ⟨rfl, b1⟩))
        go_ret
        exact ⟨rfl, hb.trans (b1.mono hb.size)⟩
      · rw [if_neg hzn] at hTT
        have hzL : z ≤ L := by have := (hok (by omega)).1; omega
        have hN : Hid (thru (fun p x => sml d p (dep + 1) x) (ps.drop (j + 1)) z = V) := hTT
        clear hok hz hTT hd1 hcp
        go_wp2_with (first
          | (go_at_call 12; refine hcall.mono ?_; rintro e w1 ⟨rfl, b1⟩))
        go_roundw
        case rel => exact ⟨j + 1, z, hlt, by go_num, rfl, by omega, by omega, hN, hA.keepB b1 (World.block_lt_of_cell? wr _ y0), hb.trans (b1.mono hb.size)⟩
        case measure => simp [RowKit.intOf]; omega
    · have i1 : ¬ (j : Int) < (ps.length : Int) := by omega
      have hTT := hT.out
      rw [List.drop_eq_nil_of_le (by omega)] at hTT
      have hTe : L = V := hTT
      subst hTe
      clear hTT
      go_wp2
      go_ret
      exact ⟨rfl, hb⟩

theorem refSmall_any : ∀ (d : Nat), SmallC d
  | 0 => fun _ t => Empty.elim t
  | d + 1 => refSmall_step d (refSmall_any d)

theorem refSmallTop_any {ok : Nat → Prop} {d : Nat} {t : T d} {v : Value} {w : World} (h : RdT ok w d t v) :
    Calls Tryd.prog 5 #[v] w fun e w' => e = .returned (.bool (decide (0 ≤ sml d t 0 200))) ∧ Below w.heap.size w w' := by
  match d, t, h with
  | 0, t, h => exact Empty.elim t
  | d + 1, t, h =>
    obtain ⟨k, n, s, ps, rfl⟩ := T.open t
    have h0 := h
    obtain ⟨sl, rfl, hp⟩ := rdT_mk.1 h
    have hb0 := (Below.refl w.heap.size w).alloc (Nat.le_refl _) (.cells #[.int .i64 k, .int .i64 n, .string s, sl] 24)
    have hcall := refSmall_any (d + 1) ok (mkT k n s ps) _ _ 0 200 (RdT.below hb0 (Nat.le_refl _) h0) (by omega) (by omega) (by omega)
    obtain ⟨z, hz⟩ : ∃ z, sml (d + 1) (mkT k n s ps) 0 200 = z := ⟨_, rfl⟩
    rw [hz] at hcall ⊢
    clear hz h0 hp
    go_enter Tryd.func5, Tryd.ntmps5
    go_wp2_with (first
      | (go_at_call 12; refine hcall.mono ?_; rintro e w1 ⟨rfl, b1⟩))
    all_goals go_ret
    all_goals exact ⟨by simp [*], hb0.trans (b1.mono hb0.size)⟩
end Go.Proofs.YtpdhmjjmpofphaaDoor
