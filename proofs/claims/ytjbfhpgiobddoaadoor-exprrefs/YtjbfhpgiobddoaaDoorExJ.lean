/- What the document's add does. -/
import Derived.Test.YtjbfhpgiobddoaaDoorRows
import Derived.Test.YtjbfhpgiobddoaaDoorExS
namespace Go.Proofs.YtjbfhpgiobddoaaDoor
open Go.RowKit Go.Lib
set_option linter.unusedSimpArgs false
set_option linter.unusedVariables false

def lss (a b : ByteArray) : Bool := Op.bytesLess a.toList b.toList
def lead (ls : List ByteArray) (s : ByteArray) : Nat := (ls.takeWhile (fun x => lss x s)).length
/-- A name into rising ones, once. -/
def adS (ls : List ByteArray) (s : ByteArray) : List ByteArray := if ls[lead ls s]? = some s then ls else ls.take (lead ls s) ++ [s] ++ ls.drop (lead ls s)
def cS (ls : List ByteArray) : List Value := ls.map .string
/-- The slice v, made by calls of ours, holds the texts ls. -/
def RdS (w : World) (v : Value) (ls : List ByteArray) : Prop := w.ownsRow 0 9 1 v ls.length (cS ls)
theorem rdS_nil (w : World) : RdS w (.slice none 0 0) [] := World.ownsRow_nil w 0 9 1
theorem RdS.below {w w' : World} {v : Value} {ls : List ByteArray} {B : Nat} (h : RdS w v ls) (hb : Below B w w') (hB : w.heap.size ≤ B) : RdS w' v ls := by
  refine ⟨h.1, ?_⟩
  rcases h.2 with hn | ⟨g, cap, cur, rfl, hbg, hg, rest⟩
  · exact .inl hn
  · exact .inr ⟨g, cap, cur, rfl, hbg, by rw [hb.block g (by have := (Array.getElem?_eq_some_iff.1 hg).1; omega)]; exact hg, rest⟩
theorem RdS.form {w : World} {v : Value} {ls : List ByteArray} (h : RdS w v ls) : (v = .slice none 0 0 ∧ ls = []) ∨ ∃ g cap, v = .slice (some ⟨g, 0, none⟩) ls.length cap ∧ ls.length ≤ cap ∧ cap ≤ maxLen ∧ ∀ (i : Nat) (hi : i < ls.length), w.cell? ⟨g, i, none⟩ = some (.string ls[i]) := by
  rcases h.2 with ⟨h1, h2⟩ | ⟨g, cap, cur, rfl, hb, hg, hnc, hcm, _⟩
  · exact .inl ⟨h1, List.eq_nil_of_length_eq_zero h2⟩
  · refine .inr ⟨g, cap, rfl, hnc, hcm, fun i hi => ?_⟩
    have h1 := World.ownsRow.cells h (g := g) rfl i (.string ls[i]) (by simp [cS, hi])
    have hp : (⟨g, 0, none⟩ : Addr).add i = ⟨g, i, none⟩ := by unfold Addr.add; split <;> simp_all
    rw [hp] at h1
    exact h1
theorem lead_le (ls : List ByteArray) (s : ByteArray) : lead ls s ≤ ls.length := by
  unfold lead
  exact (List.takeWhile_prefix _).length_le
theorem lead_of : ∀ (ls : List ByteArray) (s : ByteArray) (k : Nat), k ≤ ls.length → (∀ (i : Nat) (hi : i < ls.length), i < k → lss ls[i] s = true) → (∀ (hk : k < ls.length), lss ls[k] s = false) → lead ls s = k
  | [], s, k, hk, _, _ => by simp at hk; subst hk; rfl
  | x :: r, s, 0, hk, _, h2 => by
    have := h2 (by simp)
    simp only [List.getElem_cons_zero] at this
    simp [lead, List.takeWhile_cons, this]
  | x :: r, s, k + 1, hk, h1, h2 => by
    have hx := h1 0 (by simp) (by omega)
    simp only [List.getElem_cons_zero] at hx
    have ih := lead_of r s k (by simpa using hk) (fun i hi hik => by have := h1 (i + 1) (by simpa using hi) (by omega); simpa using this) (fun hk2 => by have := h2 (by simpa using hk2); simpa using this)
    unfold lead at ih ⊢
    rw [List.takeWhile_cons, if_pos hx, List.length_cons, ih]
theorem src_texts {P : Program} {t : TypeId} (ht : P.underlying t = some (.slice 9)) {w : World} {a : Addr} {n c : Nat} {ls : List ByteArray} (hl : ls.length = n) (h : ∀ (i : Nat) (hi : i < ls.length), w.cell? (a.add i) = some (.string ls[i])) : Src P 1 t (.slice (some a) n c) n (cS ls) w := by
  refine Src.ofSlice w ht a n c (cS ls) (by simp [cS, hl]) (fun j u hu => ?_) (fun u hu => ?_)
  · have hj : j < ls.length := by
      rcases Nat.lt_or_ge j ls.length with h | h
      · exact h
      · rw [List.getElem?_eq_none (by simp [cS]; omega)] at hu; cases hu
    have : u = .string ls[j] := by simpa [cS, hj] using hu.symm
    rw [this]; exact h j hj
  · obtain ⟨x, _, rfl⟩ := List.mem_map.1 hu
    rfl
theorem Tryd.infoStr : (Tryd.prog.info? 9).map (fun i => (i.zero, i.size, i.bytes)) = some (some (.string ⟨#[]⟩), 1, 16) := by kernel_rfl
theorem cS_append (a b : List ByteArray) : cS (a ++ b) = cS a ++ cS b := by simp [cS]
theorem add_plain1 (b off i : Nat) : (⟨b, off, none⟩ : Addr).add i = ⟨b, off + i, none⟩ := by unfold Addr.add; split <;> simp_all

theorem ownsRow_zero {w : World} {base e size : Nat} {v : Value} {n : Nat} {xs : List Value} (h : w.ownsRow base e size v n xs) : w.ownsRow 0 e size v n xs :=
  ⟨h.1, h.2.elim Or.inl (fun ⟨g, cap, cur, hv, hg, r⟩ => Or.inr ⟨g, cap, cur, hv, Nat.zero_le _, r⟩)⟩

set_option maxRecDepth 100000 in
set_option maxHeartbeats 2000000 in
theorem add_any (ls : List ByteArray) (s : ByteArray) (v : Value) (w : World) (h : RdS w v ls) (hl : ls.length ≤ 1000) :
    Calls Tryd.prog 42 #[v, .string s] w fun e w' => ∃ u, e = .returned u ∧ RdS w' u (adS ls s) ∧ Below w.heap.size w w' := by
  obtain ⟨i0, hi, hz0, hz1, hz2⟩ := info_parts Tryd.infoStr
  rcases h.form with ⟨rfl, rfl⟩ | ⟨g, cap, rfl, hlc, hcm, hcell⟩
  · have e : adS [] s = [s] := rfl
    rw [e]
    clear h hl
    go_enter Tryd.func42, Tryd.ntmps42
    go_wp2
    refine wp_loop_rounds 1 ?_
    rw [rounds_succ]
    go_wp2_with (first
      | (at_builtin; refine wpList_append_both _ rfl (.tmp 43) (.tmp 46) 42 42 rfl w.heap.size 9 i0 (.string ⟨#[]⟩) 1 16 Tryd.underlying42 hi hz0 hz1 hz2 rfl v4 (0 + 1) _ rfl ho4 _ 0 [] rfl (Src.ofNil w4 Tryd.underlying42 0) 0 (.inr (by omega)) (Nat.le_refl _) (by unfold maxLen; omega) bel4.size ?_; intro v5 w5 ho5 hg5 _; have bel5 := bel4.grown hg5 bel4.size (fun k hk => (World.ownsRow.lt ho4 k hk).1); clear ho4 hg5 bel4)
      | (at_builtin; refine wpList_append_both _ rfl (.tmp 39) (.tmp 41) 42 42 rfl w.heap.size 9 i0 (.string ⟨#[]⟩) 1 16 Tryd.underlying42 hi hz0 hz1 hz2 rfl v3 0 _ rfl (World.ownsRow.alloc ho3 _) _ 1 (cS [s]) rfl (src_texts Tryd.underlying42 rfl (fun i hi => by match i, hi with | 0, _ => simp [Addr.add])) 1 (.inr (by omega)) (Nat.le_refl _) (by unfold maxLen; omega) (by have := bel3.size; simp; omega) ?_; intro v4 w4 ho4 hg4 _; have bel4 := (bel3.alloc bel3.size _).grown hg4 (by have := bel3.size; simp; omega) (fun k hk => (World.ownsRow.lt ho3 k hk).1); clear ho3 hg4 bel3)
      | (at_builtin; refine wpList_append_both _ rfl (.tmp 34) (.tmp 37) 42 42 rfl w.heap.size 9 i0 (.string ⟨#[]⟩) 1 16 Tryd.underlying42 hi hz0 hz1 hz2 rfl _ 0 [] rfl (World.ownsRow_nil w w.heap.size 9 1) _ 0 [] rfl (Src.ofNil w Tryd.underlying42 0) 0 (.inr (by omega)) (Nat.le_refl _) (by unfold maxLen; omega) (Nat.le_refl _) ?_; intro v3 w3 ho3 hg3 _; simp only [Nat.zero_add, List.nil_append] at ho3; have bel3 := (Below.refl w.heap.size w).grown hg3 (Nat.le_refl _) (fun k hk => (World.ownsRow.lt (World.ownsRow_nil w w.heap.size 9 1) k hk).1); clear hg3))
    go_ret
    exact ⟨_, rfl, by simpa [RdS, cS] using ownsRow_zero ho5, bel5⟩
  · have HC : Hid (∀ (i : Nat) (hi : i < ls.length), w.cell? ⟨g, i, none⟩ = some (.string ls[i])) := hcell
    have hrd := h
    obtain ⟨R, hR⟩ : ∃ R, adS ls s = R := ⟨_, rfl⟩
    rw [hR]
    have HR : Hid (adS ls s = R) := hR
    have hcm' : cap ≤ 9223372036854775807 := by unfold maxLen at hcm; omega
    clear hcell h hcm hR
    go_enter Tryd.func42, Tryd.ntmps42
    go_wp2
    go_loop [5] (fun i => ∃ (j : Nat), j ≤ ls.length ∧ i = .int .i64 (j : Int) ∧ Hid (∀ (i : Nat) (hi : i < ls.length), i < j → lss ls[i] s = true)) (fun i => ls.length - (RowKit.intOf i).toNat)
    case atStart => exact ⟨0, Nat.zero_le _, rfl, fun i hi h => by omega⟩
    case round =>
      obtain ⟨j, hj, rfl, hsm⟩ := hrel
      have i2 : (0 : Int) ≤ (j : Int) := by omega
      by_cases hlt : j < ls.length
      · have i1 : (j : Int) < (ls.length : Int) := by omega
        have hc := HC.out j hlt
        obtain ⟨x, hx⟩ : ∃ x, ls[j] = x := ⟨_, rfl⟩
        rw [hx] at hc
        cases hls : lss x s with
        | true =>
          have e1 : Op.bytesLess x.toList s.toList = true := hls
          have hN : Hid (∀ (i : Nat) (hi : i < ls.length), i < j + 1 → lss ls[i] s = true) := fun i hi h => by
            rcases Nat.lt_or_ge i j with h2 | h2
            · exact hsm.out i hi h2
            · have : i = j := by omega
              subst this
              rw [hx]; exact hls
          clear hls hx
          go_wp2
          go_round
          case rel => exact ⟨j + 1, hlt, by go_num, hN⟩
          case measure => simp [RowKit.intOf]; omega
        | false =>
          have e1 : Op.bytesLess x.toList s.toList = false := hls
          have hlead : lead ls s = j := lead_of ls s j hj hsm.out (fun hk => by rw [hx]; exact hls)
          by_cases heq : x = s
          · have hF : R = ls := by rw [← HR.out]; unfold adS; rw [hlead, if_pos (by rw [List.getElem?_eq_getElem hlt, hx, heq])]
            subst hF
            have e2 : (x.toList == s.toList) = true := by rw [heq]; simp
            clear hls hx hlead heq
            go_wp2
            go_ret
            exact ⟨_, rfl, hrd, Below.refl _ _⟩
          · have hne : ¬ ls[j]? = some s := by rw [List.getElem?_eq_getElem hlt, hx]; intro e; exact heq (Option.some.inj e)
            have e2 : (x.toList == s.toList) = false := by
              rw [ByteArray.toList_eq, ByteArray.toList_eq]
              exact beq_eq_false_iff_ne.2 (fun e => heq (ByteArray.ext (Array.toList_inj.1 e)))
            clear hls hx heq
            have hF : R = ls.take j ++ [s] ++ ls.drop j := by rw [← HR.out]; unfold adS; rw [hlead, if_neg hne]
            subst hF
            have hlt1 : (ls.take j).length = j := by rw [List.length_take]; omega
            have hs1 : ∀ (i : Nat) (hi : i < (ls.take j).length), w.cell? ((⟨g, 0, none⟩ : Addr).add i) = some (.string (ls.take j)[i]) := fun i hi => by
              rw [add_plain1, Nat.zero_add, List.getElem_take]
              exact HC.out i (by omega)
            have hs3 : ∀ w1, Below w.heap.size w w1 → Src Tryd.prog 1 42 (.slice (some ⟨g, j, none⟩) (ls.length - j) (cap - j)) (ls.length - j) (cS (ls.drop j)) w1 := fun w1 b1 => by
              refine src_texts Tryd.underlying42 (by rw [List.length_drop]) (fun i hi => ?_)
              rw [List.length_drop] at hi
              rw [add_plain1, List.getElem_drop]
              have hc := HC.out (j + i) (by omega)
              rw [b1.cell (p := ⟨g, j + i, none⟩) (World.block_lt_of_cell? w _ hc)]
              exact hc
            have i5 : (j : Int) ≤ (cap : Int) := by omega
            have i6 : (j : Int) ≤ (ls.length : Int) := by omega
            clear hne hlead hlt
            go_wp2_with (first
              | (at_builtin; refine wpList_append_both _ rfl (.tmp 43) (.tmp 46) 42 42 rfl w.heap.size 9 i0 (.string ⟨#[]⟩) 1 16 Tryd.underlying42 hi hz0 hz1 hz2 rfl v4 (j + 1) _ rfl ho4 _ (ls.length - j) (cS (ls.drop j)) rfl (hs3 w4 bel4) (ls.length - j) (.inr (by omega)) (Nat.le_refl _) (by unfold maxLen; omega) bel4.size ?_; intro v5 w5 ho5 hg5 _; have bel5 := bel4.grown hg5 bel4.size (fun k hk => (World.ownsRow.lt ho4 k hk).1); clear ho4 hg5 bel4)
              | (at_builtin; refine wpList_append_both _ rfl (.tmp 39) (.tmp 41) 42 42 rfl w.heap.size 9 i0 (.string ⟨#[]⟩) 1 16 Tryd.underlying42 hi hz0 hz1 hz2 rfl v3 j _ rfl (World.ownsRow.alloc ho3 _) _ 1 (cS [s]) rfl (src_texts Tryd.underlying42 rfl (fun i hi => by match i, hi with | 0, _ => simp [Addr.add])) 1 (.inr (by omega)) (Nat.le_refl _) (by unfold maxLen; omega) (by have := bel3.size; simp; omega) ?_; intro v4 w4 ho4 hg4 _; have bel4 := (bel3.alloc bel3.size _).grown hg4 (by have := bel3.size; simp; omega) (fun k hk => (World.ownsRow.lt ho3 k hk).1); clear ho3 hg4 bel3)
              | (at_builtin; refine wpList_append_both _ rfl (.tmp 34) (.tmp 37) 42 42 rfl w.heap.size 9 i0 (.string ⟨#[]⟩) 1 16 Tryd.underlying42 hi hz0 hz1 hz2 rfl _ 0 [] rfl (World.ownsRow_nil w w.heap.size 9 1) _ j (cS (ls.take j)) rfl (src_texts Tryd.underlying42 hlt1 hs1) j (.inr (by omega)) (Nat.le_refl _) (by unfold maxLen; omega) (Nat.le_refl _) ?_; intro v3 w3 ho3 hg3 _; simp only [Nat.zero_add, List.nil_append] at ho3; have bel3 := (Below.refl w.heap.size w).grown hg3 (Nat.le_refl _) (fun k hk => (World.ownsRow.lt (World.ownsRow_nil w w.heap.size 9 1) k hk).1); clear hg3))
            have e5 : (ls.take j ++ [s] ++ ls.drop j).length = j + 1 + (ls.length - j) := by simp; omega
            have hres : RdS w5 v5 (ls.take j ++ [s] ++ ls.drop j) := by
              unfold RdS
              rw [e5, cS_append, cS_append]
              exact ownsRow_zero ho5
            go_ret
            exact ⟨_, rfl, by first | exact hres | simpa using hres, bel5⟩
      · have i1 : ¬ (j : Int) < (ls.length : Int) := by omega
        have hlead : lead ls s = j := lead_of ls s j hj hsm.out (fun hk => absurd hk hlt)
        have hne : ¬ ls[j]? = some s := by rw [List.getElem?_eq_none (by omega)]; intro e; cases e
        have hF : R = ls.take j ++ [s] ++ ls.drop j := by rw [← HR.out]; unfold adS; rw [hlead, if_neg hne]
        subst hF
        have hlt1 : (ls.take j).length = j := by rw [List.length_take]; omega
        have hs1 : ∀ (i : Nat) (hi : i < (ls.take j).length), w.cell? ((⟨g, 0, none⟩ : Addr).add i) = some (.string (ls.take j)[i]) := fun i hi => by
          rw [add_plain1, Nat.zero_add, List.getElem_take]
          exact HC.out i (by omega)
        obtain ⟨a1, ha1⟩ : ∃ a1 : Option Addr, (if cap = j then some (⟨g, 0, none⟩ : Addr) else some ⟨g, j, none⟩) = a1 := ⟨_, rfl⟩
        have hs3 : ∀ w1, Below w.heap.size w w1 → Src Tryd.prog 1 42 (.slice a1 (ls.length - j) (cap - j)) (ls.length - j) (cS (ls.drop j)) w1 := fun w1 b1 => by
          by_cases hcj : cap = j
          · rw [if_pos hcj] at ha1
            subst ha1
            have h0 : ls.length - j = 0 := by omega
            rw [h0, List.drop_eq_nil_of_le (by omega)]
            exact src_texts Tryd.underlying42 rfl (fun i hi => by simp at hi)
          · rw [if_neg hcj] at ha1
            subst ha1
            refine src_texts Tryd.underlying42 (by rw [List.length_drop]) (fun i hi => ?_)
            rw [List.length_drop] at hi
            rw [add_plain1, List.getElem_drop]
            have hc := HC.out (j + i) (by omega)
            rw [b1.cell (p := ⟨g, j + i, none⟩) (World.block_lt_of_cell? w _ hc)]
            exact hc
        have i5 : (j : Int) ≤ (cap : Int) := by omega
        have i6 : (j : Int) ≤ (ls.length : Int) := by omega
        clear hne hlead hlt
        go_wp2_with (first
          | (at_builtin; refine wpList_append_both _ rfl (.tmp 43) (.tmp 46) 42 42 rfl w.heap.size 9 i0 (.string ⟨#[]⟩) 1 16 Tryd.underlying42 hi hz0 hz1 hz2 rfl v4 (j + 1) _ rfl ho4 _ (ls.length - j) (cS (ls.drop j)) rfl (hs3 w4 bel4) (ls.length - j) (.inr (by omega)) (Nat.le_refl _) (by unfold maxLen; omega) bel4.size ?_; intro v5 w5 ho5 hg5 _; have bel5 := bel4.grown hg5 bel4.size (fun k hk => (World.ownsRow.lt ho4 k hk).1); clear ho4 hg5 bel4)
          | (at_builtin; refine wpList_append_both _ rfl (.tmp 39) (.tmp 41) 42 42 rfl w.heap.size 9 i0 (.string ⟨#[]⟩) 1 16 Tryd.underlying42 hi hz0 hz1 hz2 rfl v3 j _ rfl (World.ownsRow.alloc ho3 _) _ 1 (cS [s]) rfl (src_texts Tryd.underlying42 rfl (fun i hi => by match i, hi with | 0, _ => simp [Addr.add])) 1 (.inr (by omega)) (Nat.le_refl _) (by unfold maxLen; omega) (by have := bel3.size; simp; omega) ?_; intro v4 w4 ho4 hg4 _; have bel4 := (bel3.alloc bel3.size _).grown hg4 (by have := bel3.size; simp; omega) (fun k hk => (World.ownsRow.lt ho3 k hk).1); clear ho3 hg4 bel3)
          | (at_builtin; refine wpList_append_both _ rfl (.tmp 34) (.tmp 37) 42 42 rfl w.heap.size 9 i0 (.string ⟨#[]⟩) 1 16 Tryd.underlying42 hi hz0 hz1 hz2 rfl _ 0 [] rfl (World.ownsRow_nil w w.heap.size 9 1) _ j (cS (ls.take j)) rfl (src_texts Tryd.underlying42 hlt1 hs1) j (.inr (by omega)) (Nat.le_refl _) (by unfold maxLen; omega) (Nat.le_refl _) ?_; intro v3 w3 ho3 hg3 _; simp only [Nat.zero_add, List.nil_append] at ho3; have bel3 := (Below.refl w.heap.size w).grown hg3 (Nat.le_refl _) (fun k hk => (World.ownsRow.lt (World.ownsRow_nil w w.heap.size 9 1) k hk).1); clear hg3))
        have e5 : (ls.take j ++ [s] ++ ls.drop j).length = j + 1 + (ls.length - j) := by simp; omega
        have hres : RdS w5 v5 (ls.take j ++ [s] ++ ls.drop j) := by
          unfold RdS
          rw [e5, cS_append, cS_append]
          exact ownsRow_zero ho5
        go_ret
        exact ⟨_, rfl, by first | exact hres | simpa using hres, bel5⟩
end Go.Proofs.YtjbfhpgiobddoaaDoor
