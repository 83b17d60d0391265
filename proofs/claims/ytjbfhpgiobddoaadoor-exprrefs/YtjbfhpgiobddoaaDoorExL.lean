/- What the document's refs and Refs do. -/
import Derived.Test.YtjbfhpgiobddoaaDoorExJ
import Derived.Test.YtjbfhpgiobddoaaDoorExI
namespace Go.Proofs.YtjbfhpgiobddoaaDoor
open Go.RowKit Go.Lib
set_option linter.unusedSimpArgs false
set_option linter.unusedVariables false

/-- The names of an expression, behind those that are there. -/
def rfC : (d : Nat) → T d → List ByteArray → List ByteArray := fold (fun k _ s fs l => fs.foldl (fun a f => f a) (if k = 2 then adS l s else l))
theorem rfC_mk {d : Nat} (k n : Int) (s : ByteArray) (ps : List (T d)) (l : List ByteArray) : rfC (d + 1) (mkT k n s ps) l = ps.foldl (fun a p => rfC d p a) (if k = 2 then adS l s else l) := by
  show (ps.map (rfC d)).foldl (fun a f => f a) (if k = 2 then adS l s else l) = _
  rw [List.foldl_map]
theorem adS_len (l : List ByteArray) (s : ByteArray) : (adS l s).length ≤ l.length + 1 := by
  have := lead_le l s
  unfold adS
  split
  · omega
  · simp; omega
theorem foldl_len {d : Nat} (H : ∀ (p : T d) (l : List ByteArray), (rfC d p l).length ≤ l.length + cnt d p) : ∀ (ps : List (T d)) (l : List ByteArray), (ps.foldl (fun a p => rfC d p a) l).length ≤ l.length + (ps.map (cnt d)).sum
  | [], l => by simp
  | p :: r, l => by
    have h1 := H p l
    have h2 := foldl_len H r (rfC d p l)
    simp only [List.foldl_cons, List.map_cons, List.sum_cons]
    omega
theorem rfC_len : ∀ (d : Nat) (t : T d) (l : List ByteArray), (rfC d t l).length ≤ l.length + cnt d t
  | 0, t, _ => Empty.elim t
  | d + 1, t, l => by
    obtain ⟨k, n, s, ps, rfl⟩ := T.open t
    rw [rfC_mk, cnt_mk]
    have h1 := foldl_len (rfC_len d) ps (if k = 2 then adS l s else l)
    have h2 := adS_len l s
    split at h1 <;> rename_i hk
    · rw [if_pos hk]; omega
    · rw [if_neg hk]; omega

def RefsC (d : Nat) : Prop := ∀ (ok : Nat → Prop) (t : T d) (v lv : Value) (ls : List ByteArray) (w : World), RdT ok w d t v → RdS w lv ls → ls.length + cnt d t ≤ 1000 →
  Calls Tryd.prog 30 #[v, lv] w fun e w' => ∃ u, e = .returned u ∧ RdS w' u (rfC d t ls) ∧ Below w.heap.size w w'

set_option maxRecDepth 100000 in
set_option maxHeartbeats 2000000 in
theorem refs_step (d : Nat) (IH : RefsC d) : RefsC (d + 1) := by
  intro ok t v lv ls w h hS0 hlen
  obtain ⟨k, n, s, ps, rfl⟩ := T.open t
  obtain ⟨sl, rfl, hp⟩ := rdT_mk.1 h
  obtain ⟨a, cap, rfl, hlc, hcm, hcell⟩ := hp.form
  rw [cnt_mk] at hlen
  have HC : Hid (∀ (i : Nat) (hi : i < ps.length), ∃ b off c0 c1 c2 c3, a = some ⟨b, off, none⟩ ∧ b < w.heap.size ∧ RdT ok w d ps[i] (.agg #[c0, c1, c2, c3]) ∧ w.cell? ⟨b, off + i * 4, none⟩ = some c0 ∧ w.cell? ⟨b, off + i * 4 + 1, none⟩ = some c1 ∧ w.cell? ⟨b, off + i * 4 + 2, none⟩ = some c2 ∧ w.cell? ⟨b, off + i * 4 + 3, none⟩ = some c3) := hcell
  clear hcell h hp
  have hb0 := (Below.refl w.heap.size w).alloc (Nat.le_refl _) (.cells #[.int .i64 k, .int .i64 n, .string s, .slice a ps.length cap] 24)
  have hA0 := At4.new w (.int .i64 k) (.int .i64 n) (.string s) (.slice a ps.length cap) 24
  rw [rfC_mk]
  by_cases k2 : k = 2
  · subst k2
    rw [if_pos rfl]
    obtain ⟨R, hR⟩ : ∃ R, ps.foldl (fun a p => rfC d p a) (adS ls s) = R := ⟨_, rfl⟩
    rw [hR]
    have HR : Hid ((ps.drop 0).foldl (fun a p => rfC d p a) (adS ls s) = R) := hR
    have hal := adS_len ls s
    have HL : Hid ((adS ls s).length + ((ps.drop 0).map (cnt d)).sum ≤ 1000) := by show _ ≤ _; rw [List.drop_zero]; omega
    have hadd := add_any ls s lv _ (hS0.below hb0 (Nat.le_refl _)) (by omega)
    clear hR hal hlen
    go_enter Tryd.func30, Tryd.ntmps30
    go_wp2_with (first
      | (go_at_call 42; refine hadd.mono ?_; rintro e w1 ⟨u, rfl, hS1, b1⟩; have bb1 := hb0.trans (b1.mono hb0.size); have hA1 := hA0.keepB b1 (by simp); obtain ⟨q0, q1, q2, q3⟩ := id hA1; clear hadd))
    clear q0 q1 q2 q3
    go_loopw [1, 16] (fun l i wr => ∃ (j : Nat) (cur : List ByteArray), j ≤ ps.length ∧ i = .int .i64 (j : Int) ∧ RdS wr l cur ∧ Hid ((ps.drop j).foldl (fun a p => rfC d p a) cur = R) ∧ Hid (cur.length + ((ps.drop j).map (cnt d)).sum ≤ 1000) ∧ At4 wr w.heap.size (.int .i64 2) (.int .i64 n) (.string s) (.slice a ps.length cap) ∧ Below w.heap.size w wr) (fun _ i _ => ps.length - (RowKit.intOf i).toNat)
    case atStart => exact ⟨0, _, Nat.zero_le _, rfl, hS1, HR, HL, hA1, bb1⟩
    case round =>
      obtain ⟨j, cur, hj, rfl, hS, hfo, hle, hA, hb⟩ := hrel
      obtain ⟨y0, y1, y2, y3⟩ := id hA
      by_cases hlt : j < ps.length
      · obtain ⟨b, off, c0, c1, c2, c3, rfl, hbl, hr, k0, k1, k2, k3⟩ := HC.out j hlt
        have C0 := (hb.cell (p := ⟨b, off + j * 4, none⟩) hbl).trans k0
        have C1 := (hb.cell (p := ⟨b, off + j * 4 + 1, none⟩) hbl).trans k1
        have C2 := (hb.cell (p := ⟨b, off + j * 4 + 2, none⟩) hbl).trans k2
        have C3 := (hb.cell (p := ⟨b, off + j * 4 + 3, none⟩) hbl).trans k3
        have hfo2 := hfo.out
        have hle2 := hle.out
        rw [List.drop_eq_getElem_cons hlt] at hfo2 hle2
        rw [List.foldl_cons] at hfo2
        rw [List.map_cons, List.sum_cons] at hle2
        have hcall := IH ok ps[j] _ _ cur wr (RdT.below hb (Nat.le_refl _) hr) hS (by omega)
        have hgr := rfC_len d ps[j] cur
        have hN : Hid ((ps.drop (j + 1)).foldl (fun a p => rfC d p a) (rfC d ps[j] cur) = R) := hfo2
        have hM : Hid ((rfC d ps[j] cur).length + ((ps.drop (j + 1)).map (cnt d)).sum ≤ 1000) := by show _ ≤ _; omega
        have i1 : (j : Int) < (ps.length : Int) := by omega
        have i2 : (0 : Int) ≤ (j : Int) := by omega
        clear k0 k1 k2 k3 hr hbl hfo2 hle2 hgr
        go_wp2_with (first
          | (go_at_call 30; refine hcall.mono ?_; rintro e w1 ⟨u, rfl, hS1, b1⟩))
        go_roundw
        case rel => exact ⟨j + 1, _, hlt, by go_num, hS1, hN, hM, hA.keepB b1 (World.block_lt_of_cell? wr _ y0), hb.trans (b1.mono hb.size)⟩
        case measure => simp [RowKit.intOf]; omega
      · have i1 : ¬ (j : Int) < (ps.length : Int) := by omega
        have hfo2 := hfo.out
        rw [List.drop_eq_nil_of_le (by omega)] at hfo2
        have hR2 : cur = R := hfo2
        subst hR2
        clear hfo2
        go_wp2
        go_ret
        exact ⟨_, rfl, hS, hb⟩
  · rw [if_neg k2]
    have e2 : (k == 2) = false := beq_eq_false_iff_ne.2 k2
    obtain ⟨R, hR⟩ : ∃ R, ps.foldl (fun a p => rfC d p a) ls = R := ⟨_, rfl⟩
    rw [hR]
    have HR : Hid ((ps.drop 0).foldl (fun a p => rfC d p a) ls = R) := hR
    have HL : Hid (ls.length + ((ps.drop 0).map (cnt d)).sum ≤ 1000) := by show _ ≤ _; rw [List.drop_zero]; omega
    have hS1 := hS0.below hb0 (Nat.le_refl _)
    clear hR hlen
    go_enter Tryd.func30, Tryd.ntmps30
    go_wp2
    go_loopw [1, 16] (fun l i wr => ∃ (j : Nat) (cur : List ByteArray), j ≤ ps.length ∧ i = .int .i64 (j : Int) ∧ RdS wr l cur ∧ Hid ((ps.drop j).foldl (fun a p => rfC d p a) cur = R) ∧ Hid (cur.length + ((ps.drop j).map (cnt d)).sum ≤ 1000) ∧ At4 wr w.heap.size (.int .i64 k) (.int .i64 n) (.string s) (.slice a ps.length cap) ∧ Below w.heap.size w wr) (fun _ i _ => ps.length - (RowKit.intOf i).toNat)
    case atStart => exact ⟨0, _, Nat.zero_le _, rfl, hS1, HR, HL, hA0, hb0⟩
    case round =>
      obtain ⟨j, cur, hj, rfl, hS, hfo, hle, hA, hb⟩ := hrel
      obtain ⟨y0, y1, y2, y3⟩ := id hA
      by_cases hlt : j < ps.length
      · obtain ⟨b, off, c0, c1, c2, c3, rfl, hbl, hr, k0, k1, k2, k3⟩ := HC.out j hlt
        have C0 := (hb.cell (p := ⟨b, off + j * 4, none⟩) hbl).trans k0
        have C1 := (hb.cell (p := ⟨b, off + j * 4 + 1, none⟩) hbl).trans k1
        have C2 := (hb.cell (p := ⟨b, off + j * 4 + 2, none⟩) hbl).trans k2
        have C3 := (hb.cell (p := ⟨b, off + j * 4 + 3, none⟩) hbl).trans k3
        have hfo2 := hfo.out
        have hle2 := hle.out
        rw [List.drop_eq_getElem_cons hlt] at hfo2 hle2
        rw [List.foldl_cons] at hfo2
        rw [List.map_cons, List.sum_cons] at hle2
        have hcall := IH ok ps[j] _ _ cur wr (RdT.below hb (Nat.le_refl _) hr) hS (by omega)
        have hgr := rfC_len d ps[j] cur
        have hN : Hid ((ps.drop (j + 1)).foldl (fun a p => rfC d p a) (rfC d ps[j] cur) = R) := hfo2
        have hM : Hid ((rfC d ps[j] cur).length + ((ps.drop (j + 1)).map (cnt d)).sum ≤ 1000) := by show _ ≤ _; omega
        have i1 : (j : Int) < (ps.length : Int) := by omega
        have i2 : (0 : Int) ≤ (j : Int) := by omega
        clear k0 k1 k2 k3 hr hbl hfo2 hle2 hgr
        go_wp2_with (first
          | (go_at_call 30; refine hcall.mono ?_; rintro e w1 ⟨u, rfl, hS1, b1⟩))
        go_roundw
        case rel => exact ⟨j + 1, _, hlt, by go_num, hS1, hN, hM, hA.keepB b1 (World.block_lt_of_cell? wr _ y0), hb.trans (b1.mono hb.size)⟩
        case measure => simp [RowKit.intOf]; omega
      · have i1 : ¬ (j : Int) < (ps.length : Int) := by omega
        have hfo2 := hfo.out
        rw [List.drop_eq_nil_of_le (by omega)] at hfo2
        have hR2 : cur = R := hfo2
        subst hR2
        clear hfo2
        go_wp2
        go_ret
        exact ⟨_, rfl, hS, hb⟩
theorem refs_any : ∀ (d : Nat), RefsC d
  | 0 => fun _ t => Empty.elim t
  | d + 1 => refs_step d (refs_any d)

/-- The names of any expression. -/
def rfT (d : Nat) (t : T d) : List ByteArray := if fmC d t = true then rfC d t [] else []
set_option maxHeartbeats 1000000 in
theorem refRefs_any {ok : Nat → Prop} {d : Nat} {t : T d} {v : Value} {w : World} (hT : Tabs w) (h : RdT ok w d t v) (hc : cnt d t ≤ 1000) (hsh : shrt 1000 d t = true) :
    Calls Tryd.prog 18 #[v] w fun e w' => ∃ u, e = .returned u ∧ RdS w' u (rfT d t) ∧ Below w.heap.size w w' := by
  match d, t, h, hc, hsh with
  | 0, t, _, _, _ => exact Empty.elim t
  | d + 1, t, h, hc, hsh =>
    obtain ⟨k, n, s, ps, rfl⟩ := T.open t
    have h0 := h
    obtain ⟨sl, rfl, hp⟩ := rdT_mk.1 h
    have hb0 := (Below.refl w.heap.size w).alloc (Nat.le_refl _) (.cells #[.int .i64 k, .int .i64 n, .string s, sl] 24)
    have hA := At4.new w (.int .i64 k) (.int .i64 n) (.string s) sl 24
    have h1 := formed_any (hT.below hb0 (Nat.le_refl _)) (RdT.below hb0 (Nat.le_refl _) h0) hc hsh
    unfold rfT
    cases hf : fmC (d + 1) (mkT k n s ps) with
    | false =>
      rw [hf] at h1
      rw [if_neg (by decide)]
      clear hT h0 hp hf hA
      go_enter Tryd.func18, Tryd.ntmps18
      go_wp2_with (first
        | (go_at_call 10; refine h1.mono ?_; rintro e w1 ⟨rfl, b1⟩; have bb1 := hb0.trans (b1.mono hb0.size); clear h1))
      go_ret
      exact ⟨_, rfl, rdS_nil _, bb1⟩
    | true =>
      rw [hf] at h1
      rw [if_pos rfl]
      have h2 := fun w1 (b1 : Below w.heap.size w w1) => refs_any (d + 1) ok (mkT k n s ps) _ (.slice none 0 0) [] w1 (RdT.below b1 (Nat.le_refl _) h0) (rdS_nil w1) (by simpa using hc)
      clear hT h0 hp hf hc hsh
      go_enter Tryd.func18, Tryd.ntmps18
      go_wp2_with (first
        | (go_at_call 10; refine h1.mono ?_; rintro e w1 ⟨rfl, b1⟩; have bb1 := hb0.trans (b1.mono hb0.size); obtain ⟨y0, y1, y2, y3⟩ := hA.keepB b1 (by simp); have h2' := h2 w1 bb1; clear h1 h2)
        | (go_at_call 30; refine h2'.mono ?_; rintro e w2 ⟨u, rfl, hS2, b2⟩; have bb2 := bb1.trans (b2.mono bb1.size); clear h2' y0 y1 y2 y3))
      go_ret
      exact ⟨_, rfl, hS2, bb2⟩
end Go.Proofs.YtjbfhpgiobddoaaDoor
