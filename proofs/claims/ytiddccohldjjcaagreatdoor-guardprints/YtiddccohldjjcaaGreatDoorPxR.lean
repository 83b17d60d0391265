
/- What the program's addNames and Refs do. -/
import Derived.Test.YtiddccohldjjcaaGreatDoorPxU
import Derived.Test.YtiddccohldjjcaaGreatDoorPxF
import Derived.Test.YtiddccohldjjcaaGreatDoorPxK
import Derived.Test.YtiddccohldjjcaaGreatDoorStpA
import Derived.Test.YtiddccohldjjcaaGreatDoorRfM
import Derived.Test.YtiddccohldjjcaaGreatDoorSrt
import Derived.Test.YtiddccohldjjcaaGreatDoorGlyK
import Derived.Sort.OwnSorted
import Derived.Lib.OwnBridge
namespace Go.Proofs.YtiddccohldjjcaaGreatDoor
open Go.RowKit Go.Lib
set_option linter.unusedSimpArgs false
set_option linter.unusedVariables false
attribute [local go_sem ↓] Go.wp_at_zero Go.wp_at_succ

theorem cell_al2 {w : World} {p : Addr} {v : Value} {O : Obj} (h : w.cell? p = some v) : (w.alloc O).cell? p = some v := (((Below.refl w.heap.size w).alloc (Nat.le_refl _) O).cell (World.block_lt_of_cell? w _ h)).trans h
theorem cS_enc (ls : List ByteArray) : (ls.map bl).map encStr = cS ls := map_encStr ls
/-- Nothing has turned but the row of v, and new blocks; the row is where it was, or new. -/
structure Fr (w w' : World) (v u : Value) : Prop where
  grown : w.grownBy w' v.ownBlock
  lies : ∀ g, u.ownBlock = some g → v.ownBlock = some g ∨ w.heap.size ≤ g
theorem Fr.of {w w' : World} {B : Nat} (h : Below B w w') (hB : w.heap.size ≤ B) (v : Value) : Fr w w' v v := ⟨⟨h.os, h.tape, h.output, h.size, fun k hk _ => h.block k (by omega)⟩, fun g hg => .inl hg⟩
theorem Fr.trans {w w1 w2 : World} {v u t : Value} (h : Fr w w1 v u) (k : Fr w1 w2 u t) : Fr w w2 v t := by
  refine ⟨⟨k.grown.os.trans h.grown.os, k.grown.tape.trans h.grown.tape, k.grown.output.trans h.grown.output, Nat.le_trans h.grown.size k.grown.size, fun j hj hne => ?_⟩, fun g hg => ?_⟩
  · rw [k.grown.block j (Nat.lt_of_lt_of_le hj h.grown.size) (fun e => ?_), h.grown.block j hj hne]
    rcases h.lies j e.symm with q | q
    · exact hne q.symm
    · omega
  · rcases k.lies g hg with q | q
    · exact h.lies g q
    · exact .inr (Nat.le_trans h.grown.size q)
theorem Fr.below {w w' : World} {v u : Value} {B : Nat} (h : Fr w w' v u) (hB : B ≤ w.heap.size) (hv : ∀ g, v.ownBlock = some g → B ≤ g) : Below B w w' := (Below.refl B w).grown h.grown hB (fun k hk => hv k hk)
theorem Kids.fr {w w' : World} {v u sl : Value} {l : List Value} (h : Kids w sl l) (f : Fr w w' v u) (ho : ∀ g, v.ownBlock = some g → sl.ownBlock = some g → False) : Kids w' sl l := by
  rcases h with h | ⟨g, hv, hc⟩
  · exact .inl h
  · refine .inr ⟨g, hv, fun i hi => ?_⟩
    refine f.grown.cell (hc i hi) (fun e => ?_)
    subst hv
    exact ho g e.symm rfl
/-- Apart still, behind the row's growth. -/
theorem apart_fr {w w' : World} {v u sl : Value} {l : List Value} (h : Kids w sl l) (hl : l ≠ []) (f : Fr w w' v u) (ho : ∀ g, v.ownBlock = some g → sl.ownBlock = some g → False) : ∀ g, u.ownBlock = some g → sl.ownBlock = some g → False := by
  intro g h1 h2
  rcases f.lies g h1 with q | q
  · exact ho g q h2
  · rcases h with ⟨_, e⟩ | ⟨g', rfl, hc⟩
    · exact hl e
    · have e1 : g' = g := by simpa [Value.ownBlock] using h2
      subst e1
      cases l with
      | nil => exact hl rfl
      | cons x r =>
        have := World.block_lt_of_cell? w _ (hc 0 (by simp))
        simp only at this
        omega

theorem pSort_any {base : Nat} (ls : List ByteArray) (v : Value) (w : World) (h : w.ownsRow base 9 1 v ls.length (cS ls)) (hl : ls.length ≤ 1000) :
    Calls Tryz.prog 33 #[v] w fun e w' => e = .returned (.tuple #[]) ∧ w'.ownsRow base 9 1 v ((ls.map bl).mergeSort lrB).length (((ls.map bl).mergeSort lrB).map encStr) ∧ Fr w w' v v := by
  have hlen : ((ls.map bl).mergeSort lrB).length = ls.length := by simp
  rcases h.2 with ⟨rfl, h2⟩ | ⟨g, cap, cur, rfl, hbase, hb, h1, h2, h3, h4⟩
  · have hx : ls = [] := List.eq_nil_of_length_eq_zero h2
    subst hx
    refine (Any.slices_Sort_string_none laysS none 0 w).mono ?_
    rintro e w' ⟨rfl, rfl⟩
    exact ⟨rfl, by simpa using World.ownsRow_nil w' base 9 1, Fr.of (Below.refl _ _) (Nat.le_refl _) _⟩
  · have hh : Sort.Holds encStr w g 0 (ls.map bl).toArray := holds_of_block hb (by rw [cS_enc, List.length_map]; simpa using h4)
    have hc := Any.slices_Sort_string laysS g 0 cap (ls.map bl) w hh (Array.getElem?_eq_some_iff.1 hb).1 (by simp; omega)
    rw [List.length_map] at hc
    refine Calls.mono hc ?_
    rintro e w' ⟨rfl, n, os, rfl⟩
    refine ⟨rfl, ?_, grownBy_sorted _, fun g hg => .inl hg⟩
    have := ownsRow_sorted (n := n) (os := os) (ss := ls.map bl) (ts := (ls.map bl).mergeSort lrB) (by simp) hbase hb (by simpa using h1) h2 h3
    rw [List.length_map, ← hlen] at this
    rw [hlen]
    rw [hlen] at this
    exact this
theorem comp_len (zs : List Bs) : (compact zs).length ≤ zs.length := by
  unfold compact compactUpTo
  rw [List.length_map]
  have := List.length_filter_le (keeps zs.toArray) (List.range zs.length)
  simpa using this
theorem pCompact_any {base : Nat} (zs : List Bs) (v : Value) (w : World) (h : w.ownsRow base 9 1 v zs.length (zs.map encStr)) (hl : zs.length ≤ 1000) :
    Calls Tryz.prog 34 #[v] w fun e w' => ∃ u, e = .returned u ∧ w'.ownsRow base 9 1 u (compact zs).length ((compact zs).map encStr) ∧ Fr w w' v u := by
  by_cases hv : v = .slice none 0 0
  · subst hv
    have hz : zs = [] := by
      rcases h.2 with ⟨_, h2⟩ | ⟨g, cap, cur, h0, _⟩
      · exact List.eq_nil_of_length_eq_zero h2
      · cases h0
    subst hz
    refine (Any.slices_Compact_string_empty laysK none 0 w).mono ?_
    rintro e w' ⟨rfl, rfl⟩
    exact ⟨_, rfl, by simpa [compact, compactUpTo] using World.ownsRow_nil w' base 9 1, Fr.of (Below.refl _ _) (Nat.le_refl _) _⟩
  · obtain ⟨g, cap, rfl, hbase, hg, h1, h2, h3, hH⟩ := holds_of_ownsRow h hv
    refine (Any.slices_Compact_string laysK g 0 cap zs w hH (by omega) h1).mono ?_
    rintro e w' ⟨rfl, q, rfl⟩
    have hcl := comp_len zs
    have := ownsRow_putRow (q := q) (k := (compact zs).length) (ys := compact zs ++ List.replicate (zs.length - (compact zs).length) []) h (by simp; omega) hcl
    rw [List.take_left] at this
    refine ⟨_, rfl, this, ⟨rfl, rfl, rfl, by simp [Sort.putRow, Sort.mapBlock, Sort.ahead], fun k hk hne => ?_⟩, fun g hg => .inl hg⟩
    have : g ≠ k := fun e => hne (by rw [e]; rfl)
    simp [Sort.putRow, Sort.mapBlock, Sort.ahead, Array.getElem?_modify, this]

def AddC (d : Nat) : Prop := ∀ (base : Nat) (t : T d) (ls : List ByteArray) (v : Value) (w : World), Cl d t → shrt 1000 d t = true → w.ownsRow base 9 1 v ls.length (cS ls) → base ≤ w.heap.size → ls.length + cnt d t ≤ 1000 →
  Calls Tryz.prog 32 #[v, exV d t] w fun e w' => ∃ u, e = .returned u ∧ w'.ownsRow base 9 1 u (ls ++ nmC d t).length (cS (ls ++ nmC d t)) ∧ Fr w w' v u
set_option maxRecDepth 100000 in
set_option maxHeartbeats 4000000 in
theorem add_step (d : Nat) (IH : AddC d) : AddC (d + 1) := by
  intro base t ls v w hc hs hown hbase hlen
  obtain ⟨i0, hi, hz0, hz1, hz2⟩ := info_parts Tryz.infoStr
  obtain ⟨k, n, s, ps, rfl, htop⟩ := topN_any hc
  rw [shrt_mk] at hs
  simp only [Bool.and_eq_true, decide_eq_true_eq, List.all_eq_true] at hs
  obtain ⟨hs1, hs2⟩ := hs
  rw [cnt_mk] at hlen
  obtain ⟨x, hx⟩ : ∃ x, exV (d + 1) (mkT k n s ps) = x := ⟨_, rfl⟩
  obtain ⟨L, hL⟩ : ∃ L, ps.map (exV d) = L := ⟨_, rfl⟩
  rw [hx, hL] at htop
  rw [hx, nmC_mk]
  have hCl := fun w1 => pClone_any s w1 (by omega)
  have hLl : Hid (L.length = ps.length) := by rw [← hL]; show _ = _; simp
  by_cases k2 : k = 2
  · subst k2
    rw [if_pos rfl]
    have hps : ps = [] := by
      rcases hc with ⟨h1, _, _⟩ | ⟨_, _, h3⟩ | ⟨h1, _, _, _⟩ | ⟨h1, _⟩ | ⟨h1, _⟩
      · simp at h1
      · exact h3
      · simp at h1
      · simp at h1
      · simp at h1
    subst hps
    simp only [List.map_nil] at hL
    subst hL
    simp only [List.map_nil, List.flatten_nil, List.append_nil, List.sum_nil] at hlen ⊢
    have hbg : ∀ g, v.ownBlock = some g → g < w.heap.size := fun g hg => (World.ownsRow.lt hown g hg).2
    clear hc hs2 IH hLl
    go_enter Tryz.func32, Tryz.ntmps32
    go_wp2_with (first
      | (go_at_call 27; refine (htop _).mono ?_; rintro e w1 ⟨sl, rfl, hk1, b1⟩; obtain ⟨a1, rfl⟩ := hk1.1.form; have b2 := b1.alloc b1.size (.cells #[.int .i64 2, .int .i64 n, .string s, .slice a1 0 0] 66); have hA := At4.new w1 (.int .i64 2) (.int .i64 n) (.string s) (.slice a1 0 0) 66)
      | (go_at_call 36; refine (hCl _).mono ?_; rintro e w2 ⟨rfl, b3⟩; have b4 := b2.trans (b3.mono b2.size); have hA2 := hA.keepB b3 (by simp); have ho2 := own_on hown b4 (Nat.le_refl _))
      | (at_builtin; refine wpList_append_at _ rfl (.tmp 13) (.tmp 17) 47 47 rfl base 9 i0 (.string ⟨#[]⟩) 1 16 Tryz.underlying47 hi hz0 hz1 hz2 rfl v ls.length _ rfl (World.ownsRow.alloc ho2 _) _ 1 (cS [s]) rfl (src_texts Tryz.underlying47 rfl (fun i hi => by match i, hi with | 0, _ => simp [Addr.add])) 1 (.inr (by omega)) (Nat.le_refl _) (by unfold maxLen; omega) (by have := b4.size; simp; omega) ?_; intro v5 w5 ho5 hg5 hl5; have x3 := hg5.cell (cell_al2 hA2.2.2.2) (by intro e; have := hbg _ e.symm; have := b1.size; simp only at *; omega)))
    have hF : Fr w w5 v v5 := (Fr.of (b4.alloc b4.size (.cells #[.string s] 9)) (Nat.le_refl _) v).trans ⟨hg5, fun g hg => by
      rcases hl5 with q | q
      · exact .inl (by rw [← q]; exact hg)
      · rw [q] at hg; exact .inr (by simp at hg; simp; omega)⟩
    rw [← cS_append] at ho5
    clear hg5 hl5 ho2 hA2 hA b1 b2 b3 b4 hk1 htop hCl
    refine wp_loop_rounds 1 ?_
    rw [rounds_succ]
    go_wp2
    go_ret
    refine ⟨_, rfl, ?_, hF⟩
    rw [List.length_append]
    exact ho5
  · rw [if_neg k2, List.nil_append]
    have e2 : (k == 2) = false := beq_eq_false_iff_ne.2 k2
    have hkid : Hid (∀ (j : Nat) (h : j < L.length) (h' : j < ps.length) (cur : List ByteArray) (p : Value) (w1 : World), w1.ownsRow base 9 1 p cur.length (cS cur) → base ≤ w1.heap.size → cur.length + cnt d ps[j] ≤ 1000 →
        Calls Tryz.prog 32 #[p, L[j]] w1 fun e w' => ∃ u, e = .returned u ∧ w'.ownsRow base 9 1 u (cur ++ nmC d ps[j]).length (cS (cur ++ nmC d ps[j])) ∧ Fr w1 w' p u) :=
      fun j h h' cur p w1 q1 q2 q3 => by
        have := IH base ps[j] cur p w1 ((Cl.parts hc).2 _ (List.getElem_mem h')) (hs2 _ (List.getElem_mem h')) q1 q2 q3
        subst hL
        simpa using this
    have hL2 : L.length ≤ 2 := by rw [← hL]; simpa using (Cl.parts hc).1
    have HLE : Hid (ls.length + ((ps.drop 0).map (cnt d)).sum ≤ 1000) := by rw [List.drop_zero]; show _ ≤ _; omega
    have hbg : ∀ g, v.ownBlock = some g → g < w.heap.size := fun g hg => (World.ownsRow.lt hown g hg).2
    obtain ⟨R, hR⟩ : ∃ R, ls ++ (ps.map (nmC d)).flatten = R := ⟨_, rfl⟩
    rw [hR]
    have HR : Hid (ls ++ (ps.map (nmC d)).flatten = R) := hR
    clear hc hs2 IH hL hx hR hCl hlen
    go_enter Tryz.func32, Tryz.ntmps32
    go_wp2_with (first
      | (go_at_call 27; refine (htop _).mono ?_; rintro e w1 ⟨sl, rfl, hk1, b1⟩; obtain ⟨a1, rfl⟩ := hk1.1.form))
    have b2 := b1.alloc b1.size (.cells #[.int .i64 k, .int .i64 n, .string s, .slice a1 L.length L.length] 66)
    have hK0 := hk1.1.below ((Below.refl _ w1).alloc (Nat.le_refl _) (.cells #[.int .i64 k, .int .i64 n, .string s, .slice a1 L.length L.length] 66)) (Nat.le_refl _)
    go_loopw [0, 22] (fun p i wr => ∃ (j : Nat) (cur : List ByteArray), j ≤ L.length ∧ i = .int .i64 (j : Int) ∧ wr.ownsRow base 9 1 p cur.length (cS cur) ∧ Hid (cur = ls ++ ((ps.take j).map (nmC d)).flatten) ∧ Hid (cur.length + ((ps.drop j).map (cnt d)).sum ≤ 1000) ∧ Hid (Kids wr (.slice a1 L.length L.length) L) ∧ Hid (∀ g, p.ownBlock = some g → (Value.slice a1 L.length L.length).ownBlock = some g → False) ∧ Hid (Fr w wr v p)) (fun _ i _ => L.length - (RowKit.intOf i).toNat)
    case atStart =>
      refine ⟨0, ls, Nat.zero_le _, rfl, own_on hown b2 (Nat.le_refl _), by show _ = _; simp, HLE, hK0, fun g h1 h2 => ?_, Fr.of b2 (Nat.le_refl _) v⟩
      have q1 := hbg g h1
      have q2 := hk1.2 g h2
      omega
    case round =>
      obtain ⟨j, cur, hj, rfl, ho, hcur, hln, hK, hA, hF⟩ := hrel
      have i2 : (0 : Int) ≤ (j : Int) := by omega
      by_cases hlt : j < L.length
      · have i3 : (j : Int) < (L.length : Int) := by omega
        have hll := hLl.out
        have hjp : j < ps.length := by omega
        obtain ⟨gg, hgg, hcell⟩ := hK.out.at hlt
        have hl2 := hln.out
        rw [List.drop_eq_getElem_cons hjp, List.map_cons, List.sum_cons] at hl2
        have hc2 := hkid.out j hlt hjp cur u0 wr ho (Nat.le_trans hbase hF.out.grown.size) (by omega)
        have hnl := nm_len d ps[j]
        have hnx : Hid (cur ++ nmC d ps[j] = ls ++ ((ps.take (j + 1)).map (nmC d)).flatten) := by
          show _ = _
          rw [hcur.out, List.take_succ_eq_append_getElem hjp, List.map_append, List.flatten_append, List.map_singleton, List.flatten_singleton, List.append_assoc]
        have hln2 : Hid ((cur ++ nmC d ps[j]).length + ((ps.drop (j + 1)).map (cnt d)).sum ≤ 1000) := by
          show _ ≤ _; rw [List.length_append]; omega
        have hLne : Hid (L ≠ []) := fun e => by rw [e] at hlt; simp at hlt
        obtain ⟨z, hz⟩ : ∃ z, L[j] = z := ⟨_, rfl⟩
        obtain ⟨N, hN⟩ : ∃ N, cur ++ nmC d ps[j] = N := ⟨_, rfl⟩
        rw [hz] at hcell hc2
        simp only [hN] at hc2 hnx hln2
        subst hgg
        clear hz hN hll hl2 hnl
        go_wp2_with (first
          | (go_at_call 32; refine hc2.mono ?_; rintro e w3 ⟨u, rfl, ho3, hf3⟩))
        have hK3 : Hid _ := hK.out.fr hf3 hA.out
        have hA3 : Hid _ := apart_fr hK.out hLne.out hf3 hA.out
        have hF3 : Hid (Fr w w3 v u) := hF.out.trans hf3
        go_roundw
        case rel => exact ⟨j + 1, N, hlt, by go_num, ho3, hnx, hln2, hK3, hA3, hF3⟩
        case measure => simp [RowKit.intOf]; omega
      · have i3 : ¬ (j : Int) < (L.length : Int) := by omega
        have hE : cur = R := by
          have hll := hLl.out
          rw [hcur.out, ← HR.out, List.take_of_length_le (by omega)]
        subst hE
        go_wp2
        go_ret
        exact ⟨_, rfl, ho, hF.out⟩
theorem add_any2 : ∀ (d : Nat), AddC d
  | 0 => fun _ t => Empty.elim t
  | d + 1 => add_step d (add_any2 d)

set_option maxHeartbeats 2000000 in
theorem refs_anyP {d : Nat} {t : T d} (w : World) (hc : Cl d t) (hn : cnt d t ≤ 1000) (hs : shrt 1000 d t = true) :
    Calls Tryz.prog 20 #[exV d t] w fun e w' => ∃ u, e = .returned u ∧ RdS w' u (rfT d t) ∧ Below w.heap.size w w' := by
  have h1 := formedP d t w hc (by omega) hs
  have h2 := fun w1 (b : w.heap.size ≤ w1.heap.size) => add_any2 d w.heap.size t [] (.slice none 0 0) w1 hc hs (World.ownsRow_nil w1 _ 9 1) b (by simpa using hn)
  have hnl := nm_len d t
  have hnm := rf_nm d t []
  unfold rfT
  obtain ⟨x, hx⟩ : ∃ x, exV d t = x := ⟨_, rfl⟩
  rw [hx] at h1 ⊢
  simp only [hx, List.nil_append] at h2
  cases hf : fmC d t with
  | false =>
    rw [hf] at h1
    rw [if_neg (by decide)]
    clear h2 hc hn hs hf hx
    go_enter Tryz.func20, Tryz.ntmps20
    go_wp2_with (first
      | (go_at_call 18; refine h1.mono ?_; rintro e w1 ⟨rfl, b1⟩))
    go_ret
    exact ⟨_, rfl, rdS_nil _, b1⟩
  | true =>
    rw [hf] at h1
    rw [if_pos rfl, hnm]
    obtain ⟨N, hN⟩ : ∃ N, nmC d t = N := ⟨_, rfl⟩
    rw [hN] at hnl ⊢
    simp only [hN] at h2
    have hsn := sort_names N
    have h3 := fun v w1 q => pSort_any (base := w.heap.size) N v w1 q (by omega)
    obtain ⟨Z, hZ⟩ : ∃ Z, (N.map bl).mergeSort lrB = Z := ⟨_, rfl⟩
    have hZl : Z.length ≤ 1000 := by rw [← hZ]; simp; omega
    rw [hZ] at hsn
    simp only [hZ] at h3
    have h4 := fun v w1 q => pCompact_any (base := w.heap.size) Z v w1 q hZl
    clear hc hn hs hf hx hnm hN hZ hnl
    go_enter Tryz.func20, Tryz.ntmps20
    go_wp2_with (first
      | (go_at_call 18; refine h1.mono ?_; rintro e w1 ⟨rfl, b1⟩; have h2' := h2 w1 b1.size)
      | (go_at_call 32; refine h2'.mono ?_; rintro e w2 ⟨u2, rfl, ho2, hf2⟩; have h3' := h3 u2 w2 ho2)
      | (go_at_call 33; refine h3'.mono ?_; rintro e w3 ⟨rfl, ho3, hf3⟩; have h4' := h4 u2 w3 ho3)
      | (go_at_call 34; refine h4'.mono ?_; rintro e w4 ⟨u4, rfl, ho4, hf4⟩))
    go_ret
    have hF := (hf2.trans hf3).trans hf4
    refine ⟨_, rfl, ?_, b1.trans ((hF.below (B := w.heap.size) b1.size (fun g hg => by cases hg)))⟩
    rw [hsn, cS_enc, List.length_map] at ho4
    exact ownsRow_zero ho4
end Go.Proofs.YtiddccohldjjcaaGreatDoor
