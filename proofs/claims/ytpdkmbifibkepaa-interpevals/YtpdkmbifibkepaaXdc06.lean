import Derived.Shelf.Sort.Plain
import Derived.Shelf.Slices.In.SortNone
import Derived.Shelf.Slices.CompactS
import Derived.Test.YtpdkmbifibkepaaRows
import Derived.Test.YtpdkmbifibkepaaXdc05
import Derived.Test.YtpdkmbifibkepaaXdc01
import Derived.Test.YtpdkmbifibkepaaXdc04
import Derived.Sort.OwnSorted
import Derived.Lib.OwnBridge
import Derived.Deep.RegionHeld
import Derived.Deep.DrawnRows

/- Contracts of the library at this program. -/
namespace Go.Proofs.Ytpdkmbifibkepaa
open Go.Shelf
set_option linter.unusedVariables false

def renS : Ren := { f := fun x => match x with | 190 => 21 | 125 => 38 | 258 => 37 | 128 => 58 | 129 => 59 | 302 => 49 | 303 => 50 | 304 => 51 | 305 => 52 | 306 => 53 | 307 => 54 | 308 => 55 | 309 => 56 | 310 => 57 | 333 => 63 | 329 => 64 | 330 => 65 | 334 => 66 | 335 => 67 | 336 => 68 | 344 => 70 | n => n, t := fun x => match x with | 31 => 46 | 9 => 9 | 3 => 3 | 46 => 87 | 0 => 0 | 51 => 107 | 53 => 109 | 4 => 4 | 183 => 99 | 182 => 98 | 131 => 104 | 5 => 5 | 218 => 114 | 222 => 118 | 228 => 120 | 229 => 121 | n => n, g := fun x => x }
theorem laysS : Lays.n190 Try.prog renS :=
  { mixed := by kernel_rfl, f125 := Try.func38.trans (congrArg some (by kernel_rfl)), f128 := Try.func58.trans (congrArg some (by kernel_rfl)), f129 := Try.func59.trans (congrArg some (by kernel_rfl)), f190 := Try.func21.trans (congrArg some (by kernel_rfl)), f258 := Try.func37.trans (congrArg some (by kernel_rfl)), f302 := Try.func49.trans (congrArg some (by kernel_rfl)), f303 := Try.func50.trans (congrArg some (by kernel_rfl)), f304 := Try.func51.trans (congrArg some (by kernel_rfl)), f305 := Try.func52.trans (congrArg some (by kernel_rfl)), f306 := Try.func53.trans (congrArg some (by kernel_rfl)), f307 := Try.func54.trans (congrArg some (by kernel_rfl)), f308 := Try.func55.trans (congrArg some (by kernel_rfl)), f309 := Try.func56.trans (congrArg some (by kernel_rfl)), f310 := Try.func57.trans (congrArg some (by kernel_rfl)), f329 := Try.func64.trans (congrArg some (by kernel_rfl)), f330 := Try.func65.trans (congrArg some (by kernel_rfl)), f333 := Try.func63.trans (congrArg some (by kernel_rfl)), f334 := Try.func66.trans (congrArg some (by kernel_rfl)), f335 := Try.func67.trans (congrArg some (by kernel_rfl)), f336 := Try.func68.trans (congrArg some (by kernel_rfl)), f344 := Try.func70.trans (congrArg some (by kernel_rfl)), t0 := Try.underlying0, a0 := Try.isAgg0, z0 := Try.sizeOf0, v0 := Try.zeroValue0, t3 := Try.underlying3, a3 := Try.isAgg3, z3 := Try.sizeOf3, v3 := Try.zeroValue3, t4 := Try.underlying4, a4 := Try.isAgg4, z4 := Try.sizeOf4, v4 := Try.zeroValue4, t5 := Try.underlying5, a5 := Try.isAgg5, z5 := Try.sizeOf5, v5 := Try.zeroValue5, t9 := Try.underlying9, a9 := Try.isAgg9, z9 := Try.sizeOf9, v9 := Try.zeroValue9, t31 := Try.underlying46, a31 := Try.isAgg46, z31 := Try.sizeOf46, v31 := Try.zeroValue46, t46 := Try.underlying87, a46 := Try.isAgg87, z46 := Try.sizeOf87, v46 := Try.zeroValue87, t51 := Try.underlying107, a51 := Try.isAgg107, z51 := Try.sizeOf107, v51 := Try.zeroValue107, t53 := Try.underlying109, a53 := Try.isAgg109, z53 := Try.sizeOf109, v53 := Try.zeroValue109, t131 := Try.underlying104, a131 := Try.isAgg104, z131 := Try.sizeOf104, v131 := Try.zeroValue104, t182 := Try.underlying98, a182 := Try.isAgg98, z182 := Try.sizeOf98, v182 := Try.zeroValue98, t183 := Try.underlying99, a183 := Try.isAgg99, z183 := Try.sizeOf99, v183 := Try.zeroValue99, t218 := Try.underlying114, a218 := Try.isAgg114, z218 := Try.sizeOf114, v218 := Try.zeroValue114, t222 := Try.underlying118, a222 := Try.isAgg118, z222 := Try.sizeOf118, v222 := Try.zeroValue118, t228 := Try.underlying120, a228 := Try.isAgg120, z228 := Try.sizeOf120, v228 := Try.zeroValue120, t229 := Try.underlying121, a229 := Try.isAgg121, z229 := Try.sizeOf121, v229 := Try.zeroValue121 }
def renK : Ren := { f := fun x => match x with | 194 => 22 | n => n, t := fun x => match x with | 31 => 46 | 9 => 9 | 3 => 3 | 4 => 4 | 0 => 0 | n => n, g := fun x => x }
theorem laysK : Lays.n194 Try.prog renK :=
  { mixed := by kernel_rfl, f194 := Try.func22.trans (congrArg some (by kernel_rfl)), t0 := Try.underlying0, a0 := Try.isAgg0, z0 := Try.sizeOf0, v0 := Try.zeroValue0, t3 := Try.underlying3, a3 := Try.isAgg3, z3 := Try.sizeOf3, v3 := Try.zeroValue3, t4 := Try.underlying4, a4 := Try.isAgg4, z4 := Try.sizeOf4, v4 := Try.zeroValue4, t9 := Try.underlying9, a9 := Try.isAgg9, z9 := Try.sizeOf9, v9 := Try.zeroValue9, t31 := Try.underlying46, a31 := Try.isAgg46, z31 := Try.sizeOf46, v31 := Try.zeroValue46 }
end Go.Proofs.Ytpdkmbifibkepaa

/- What the program's addNames and Refs do. -/
namespace Go.Proofs.Ytpdkmbifibkepaa
open Go.RowKit Go.Lib
set_option linter.unusedSimpArgs false
set_option linter.unusedVariables false
attribute [local go_sem ↓] Go.wp_at_zero Go.wp_at_succ

theorem cell_al2 {w : World} {p : Addr} {v : Value} {O : Obj} (h : w.cell? p = some v) : (w.alloc O).cell? p = some v := (((Below.refl w.heap.size w).alloc (Nat.le_refl _) O).cell (World.block_lt_of_cell? w _ h)).trans h
theorem cS_enc (ls : List ByteArray) : (ls.map bl).map encStr = cS ls := map_encStr ls
/-- Nothing has turned but the row of v, and new blocks; the row is where it was, or new. -/
structure Fr (w w' : World) (v u : Value) : Prop where
  grown : w.grownBy w' v.ownBlock
  lies : ∀ g, u.ownBlock = some g → v.ownBlock = some g ∨ w.heap.size ≤ g
theorem Fr.of {w w' : World} {B : Nat} (h : Below B w w') (hB : w.heap.size ≤ B) (v : Value) : Fr w w' v v := ⟨⟨h.os, h.tape, h.output, h.size, fun k hk _ => h.block k (by omega)⟩, fun g hg => .inl hg⟩
theorem Fr.trans {w w1 w2 : World} {v u t : Value} (h : Fr w w1 v u) (k : Fr w1 w2 u t) : Fr w w2 v t := by
  refine ⟨⟨k.grown.os.trans h.grown.os, k.grown.tape.trans h.grown.tape, k.grown.output.trans h.grown.output, Nat.le_trans h.grown.size k.grown.size, fun j hj hne => ?_⟩, fun g hg => ?_⟩
  · rw [k.grown.block j (Nat.lt_of_lt_of_le hj h.grown.size) (fun e => ?_), h.grown.block j hj hne]
    rcases h.lies j e.symm with q | q
    · exact hne q.symm
    · omega
  · rcases k.lies g hg with q | q
    · exact h.lies g q
    · exact .inr (Nat.le_trans h.grown.size q)
theorem Fr.below {w w' : World} {v u : Value} {B : Nat} (h : Fr w w' v u) (hB : B ≤ w.heap.size) (hv : ∀ g, v.ownBlock = some g → B ≤ g) : Below B w w' := (Below.refl B w).grown h.grown hB (fun k hk => hv k hk)
theorem Kids.fr {w w' : World} {v u sl : Value} {l : List Value} (h : Kids w sl l) (f : Fr w w' v u) (ho : ∀ g, v.ownBlock = some g → sl.ownBlock = some g → False) : Kids w' sl l := by
  rcases h with h | ⟨g, hv, hc⟩
  · exact .inl h
  · refine .inr ⟨g, hv, fun i hi => ?_⟩
    refine f.grown.cell (hc i hi) (fun e => ?_)
    subst hv
    exact ho g e.symm rfl
/-- Apart still, behind the row's growth. -/
theorem apart_fr {w w' : World} {v u sl : Value} {l : List Value} (h : Kids w sl l) (hl : l ≠ []) (f : Fr w w' v u) (ho : ∀ g, v.ownBlock = some g → sl.ownBlock = some g → False) : ∀ g, u.ownBlock = some g → sl.ownBlock = some g → False := by
  intro g h1 h2
  rcases f.lies g h1 with q | q
  · exact ho g q h2
  · rcases h with ⟨_, e⟩ | ⟨g', rfl, hc⟩
    · exact hl e
    · have e1 : g' = g := by simpa [Value.ownBlock] using h2
      subst e1
      cases l with
      | nil => exact hl rfl
      | cons x r =>
        have := World.block_lt_of_cell? w _ (hc 0 (by simp))
        simp only at this
        omega

theorem pSort_any {base : Nat} (ls : List ByteArray) (v : Value) (w : World) (h : w.ownsRow base 9 1 v ls.length (cS ls)) (hl : ls.length ≤ 1000) :
    Calls Try.prog 21 #[v] w fun e w' => e = .returned (.tuple #[]) ∧ w'.ownsRow base 9 1 v ((ls.map bl).mergeSort lrB).length (((ls.map bl).mergeSort lrB).map encStr) ∧ Fr w w' v v := by
  have hlen : ((ls.map bl).mergeSort lrB).length = ls.length := by simp
  rcases h.2 with ⟨rfl, h2⟩ | ⟨g, cap, cur, rfl, hbase, hb, h1, h2, h3, h4⟩
  · have hx : ls = [] := List.eq_nil_of_length_eq_zero h2
    subst hx
    refine (Any.slices_Sort_string_none laysS none 0 w).mono ?_
    rintro e w' ⟨rfl, rfl⟩
    exact ⟨rfl, by simpa using World.ownsRow_nil w' base 9 1, Fr.of (Below.refl _ _) (Nat.le_refl _) _⟩
  · have hh : Sort.Holds encStr w g 0 (ls.map bl).toArray := holds_of_block hb (by rw [cS_enc, List.length_map]; simpa using h4)
    have hc := Any.slices_Sort_string laysS g 0 cap (ls.map bl) w hh (Array.getElem?_eq_some_iff.1 hb).1 (by simp; omega)
    rw [List.length_map] at hc
    refine Calls.mono hc ?_
    rintro e w' ⟨rfl, n, os, rfl⟩
    refine ⟨rfl, ?_, grownBy_sorted _, fun g hg => .inl hg⟩
    have := ownsRow_sorted (n := n) (os := os) (ss := ls.map bl) (ts := (ls.map bl).mergeSort lrB) (by simp) hbase hb (by simpa using h1) h2 h3
    rw [List.length_map, ← hlen] at this
    rw [hlen]
    rw [hlen] at this
    exact this
theorem comp_len (zs : List Bs) : (compact zs).length ≤ zs.length := by
  unfold compact compactUpTo
  rw [List.length_map]
  have := List.length_filter_le (keeps zs.toArray) (List.range zs.length)
  simpa using this
theorem pCompact_any {base : Nat} (zs : List Bs) (v : Value) (w : World) (h : w.ownsRow base 9 1 v zs.length (zs.map encStr)) (hl : zs.length ≤ 1000) :
    Calls Try.prog 22 #[v] w fun e w' => ∃ u, e = .returned u ∧ w'.ownsRow base 9 1 u (compact zs).length ((compact zs).map encStr) ∧ Fr w w' v u := by
  by_cases hv : v = .slice none 0 0
  · subst hv
    have hz : zs = [] := by
      rcases h.2 with ⟨_, h2⟩ | ⟨g, cap, cur, h0, _⟩
      · exact List.eq_nil_of_length_eq_zero h2
      · cases h0
    subst hz
    refine (Any.slices_Compact_string_empty laysK none 0 w).mono ?_
    rintro e w' ⟨rfl, rfl⟩
    exact ⟨_, rfl, by simpa [compact, compactUpTo] using World.ownsRow_nil w' base 9 1, Fr.of (Below.refl _ _) (Nat.le_refl _) _⟩
  · obtain ⟨g, cap, rfl, hbase, hg, h1, h2, h3, hH⟩ := holds_of_ownsRow h hv
    refine (Any.slices_Compact_string laysK g 0 cap zs w hH (by omega) h1).mono ?_
    rintro e w' ⟨rfl, q, rfl⟩
    have hcl := comp_len zs
    have := ownsRow_putRow (q := q) (k := (compact zs).length) (ys := compact zs ++ List.replicate (zs.length - (compact zs).length) []) h (by simp; omega) hcl
    rw [List.take_left] at this
    refine ⟨_, rfl, this, ⟨rfl, rfl, rfl, by simp [Sort.putRow, Sort.mapBlock, Sort.ahead], fun k hk hne => ?_⟩, fun g hg => .inl hg⟩
    have : g ≠ k := fun e => hne (by rw [e]; rfl)
    simp [Sort.putRow, Sort.mapBlock, Sort.ahead, Array.getElem?_modify, this]

def AddC (d : Nat) : Prop := ∀ (base : Nat) (t : T d) (ls : List ByteArray) (v : Value) (w : World), Cl d t → shrt 1000 d t = true → w.ownsRow base 9 1 v ls.length (cS ls) → base ≤ w.heap.size → ls.length + cnt d t ≤ 1000 →
  Calls Try.prog 20 #[v, exV d t] w fun e w' => ∃ u, e = .returned u ∧ w'.ownsRow base 9 1 u (ls ++ nmC d t).length (cS (ls ++ nmC d t)) ∧ Fr w w' v u
set_option maxRecDepth 100000 in
set_option maxHeartbeats 4000000 in
theorem add_step (d : Nat) (IH : AddC d) : AddC (d + 1) := by
  intro base t ls v w hc hs hown hbase hlen
  obtain ⟨i0, hi, hz0, hz1, hz2⟩ := info_parts Try.infoStr
  obtain ⟨k, n, s, ps, rfl, htop⟩ := topN_any hc
  rw [shrt_mk] at hs
  simp only [Bool.and_eq_true, decide_eq_true_eq, List.all_eq_true] at hs
  obtain ⟨hs1, hs2⟩ := hs
  rw [cnt_mk] at hlen
  obtain ⟨x, hx⟩ : ∃ x, exV (d + 1) (mkT k n s ps) = x := ⟨_, rfl⟩
  obtain ⟨L, hL⟩ : ∃ L, ps.map (exV d) = L := ⟨_, rfl⟩
  rw [hx, hL] at htop
  rw [hx, nmC_mk]
  have hCl := fun w1 => pClone_any s w1 (by omega)
  have hLl : Hid (L.length = ps.length) := by rw [← hL]; show _ = _; simp
  by_cases k2 : k = 2
  · subst k2
    rw [if_pos rfl]
    have hps : ps = [] := by
      rcases hc with ⟨h1, _, _⟩ | ⟨_, _, h3⟩ | ⟨h1, _, _, _⟩ | ⟨h1, _⟩ | ⟨h1, _⟩
      · simp at h1
      · exact h3
      · simp at h1
      · simp at h1
      · simp at h1
    subst hps
    simp only [List.map_nil] at hL
    subst hL
    simp only [List.map_nil, List.flatten_nil, List.append_nil, List.sum_nil] at hlen ⊢
    have hbg : ∀ g, v.ownBlock = some g → g < w.heap.size := fun g hg => (World.ownsRow.lt hown g hg).2
    clear hc hs2 IH hLl
    go_enter Try.func20, Try.ntmps20
    go_wp2_with (first
      | (go_at_call 26; refine (htop _).mono ?_; rintro e w1 ⟨sl, rfl, hk1, b1⟩; obtain ⟨a1, rfl⟩ := hk1.1.form; have b2 := b1.alloc b1.size (.cells #[.int .i64 2, .int .i64 n, .string s, .slice a1 0 0] 74); have hA := At4.new w1 (.int .i64 2) (.int .i64 n) (.string s) (.slice a1 0 0) 74)
      | (go_at_call 36; refine (hCl _).mono ?_; rintro e w2 ⟨rfl, b3⟩; have b4 := b2.trans (b3.mono b2.size); have hA2 := hA.keepB b3 (by simp); have ho2 := own_on hown b4 (Nat.le_refl _))
      | (at_builtin; refine wpList_append_at _ rfl (.tmp 13) (.tmp 17) 46 46 rfl base 9 i0 (.string ⟨#[]⟩) 1 16 Try.underlying46 hi hz0 hz1 hz2 rfl v ls.length _ rfl (World.ownsRow.alloc ho2 _) _ 1 (cS [s]) rfl (src_texts Try.underlying46 rfl (fun i hi => by match i, hi with | 0, _ => simp [Addr.add])) 1 (.inr (by omega)) (Nat.le_refl _) (by unfold maxLen; omega) (by have := b4.size; simp; omega) ?_; intro v5 w5 ho5 hg5 hl5; have x3 := hg5.cell (cell_al2 hA2.2.2.2) (by intro e; have := hbg _ e.symm; have := b1.size; simp only at *; omega)))
    have hF : Fr w w5 v v5 := (Fr.of (b4.alloc b4.size (.cells #[.string s] 9)) (Nat.le_refl _) v).trans ⟨hg5, fun g hg => by
      rcases hl5 with q | q
      · exact .inl (by rw [← q]; exact hg)
      · rw [q] at hg; exact .inr (by simp at hg; simp; omega)⟩
    rw [← cS_append] at ho5
    clear hg5 hl5 ho2 hA2 hA b1 b2 b3 b4 hk1 htop hCl
    refine wp_loop_rounds 1 ?_
    rw [rounds_succ]
    go_wp2
    go_ret
    refine ⟨_, rfl, ?_, hF⟩
    rw [List.length_append]
    exact ho5
  · rw [if_neg k2, List.nil_append]
    have e2 : (k == 2) = false := beq_eq_false_iff_ne.2 k2
    have hkid : Hid (∀ (j : Nat) (h : j < L.length) (h' : j < ps.length) (cur : List ByteArray) (p : Value) (w1 : World), w1.ownsRow base 9 1 p cur.length (cS cur) → base ≤ w1.heap.size → cur.length + cnt d ps[j] ≤ 1000 →
        Calls Try.prog 20 #[p, L[j]] w1 fun e w' => ∃ u, e = .returned u ∧ w'.ownsRow base 9 1 u (cur ++ nmC d ps[j]).length (cS (cur ++ nmC d ps[j])) ∧ Fr w1 w' p u) :=
      fun j h h' cur p w1 q1 q2 q3 => by
        have := IH base ps[j] cur p w1 ((Cl.parts hc).2 _ (List.getElem_mem h')) (hs2 _ (List.getElem_mem h')) q1 q2 q3
        subst hL
        simpa using this
    have hL2 : L.length ≤ 2 := by rw [← hL]; simpa using (Cl.parts hc).1
    have HLE : Hid (ls.length + ((ps.drop 0).map (cnt d)).sum ≤ 1000) := by rw [List.drop_zero]; show _ ≤ _; omega
    have hbg : ∀ g, v.ownBlock = some g → g < w.heap.size := fun g hg => (World.ownsRow.lt hown g hg).2
    obtain ⟨R, hR⟩ : ∃ R, ls ++ (ps.map (nmC d)).flatten = R := ⟨_, rfl⟩
    rw [hR]
    have HR : Hid (ls ++ (ps.map (nmC d)).flatten = R) := hR
    clear hc hs2 IH hL hx hR hCl hlen
    go_enter Try.func20, Try.ntmps20
    go_wp2_with (first
      | (go_at_call 26; refine (htop _).mono ?_; rintro e w1 ⟨sl, rfl, hk1, b1⟩; obtain ⟨a1, rfl⟩ := hk1.1.form))
    have b2 := b1.alloc b1.size (.cells #[.int .i64 k, .int .i64 n, .string s, .slice a1 L.length L.length] 74)
    have hK0 := hk1.1.below ((Below.refl _ w1).alloc (Nat.le_refl _) (.cells #[.int .i64 k, .int .i64 n, .string s, .slice a1 L.length L.length] 74)) (Nat.le_refl _)
    go_loopw [0, 22] (fun p i wr => ∃ (j : Nat) (cur : List ByteArray), j ≤ L.length ∧ i = .int .i64 (j : Int) ∧ wr.ownsRow base 9 1 p cur.length (cS cur) ∧ Hid (cur = ls ++ ((ps.take j).map (nmC d)).flatten) ∧ Hid (cur.length + ((ps.drop j).map (cnt d)).sum ≤ 1000) ∧ Hid (Kids wr (.slice a1 L.length L.length) L) ∧ Hid (∀ g, p.ownBlock = some g → (Value.slice a1 L.length L.length).ownBlock = some g → False) ∧ Hid (Fr w wr v p)) (fun _ i _ => L.length - (RowKit.intOf i).toNat)
    case atStart =>
      refine ⟨0, ls, Nat.zero_le _, rfl, own_on hown b2 (Nat.le_refl _), by show _ = _; simp, HLE, hK0, fun g h1 h2 => ?_, Fr.of b2 (Nat.le_refl _) v⟩
      have q1 := hbg g h1
      have q2 := hk1.2 g h2
      omega
    case round =>
      obtain ⟨j, cur, hj, rfl, ho, hcur, hln, hK, hA, hF⟩ := hrel
      have i2 : (0 : Int) ≤ (j : Int) := by omega
      by_cases hlt : j < L.length
      · have i3 : (j : Int) < (L.length : Int) := by omega
        have hll := hLl.out
        have hjp : j < ps.length := by omega
        obtain ⟨gg, hgg, hcell⟩ := hK.out.at hlt
        have hl2 := hln.out
        rw [List.drop_eq_getElem_cons hjp, List.map_cons, List.sum_cons] at hl2
        have hc2 := hkid.out j hlt hjp cur u0 wr ho (Nat.le_trans hbase hF.out.grown.size) (by omega)
        have hnl := nm_len d ps[j]
        have hnx : Hid (cur ++ nmC d ps[j] = ls ++ ((ps.take (j + 1)).map (nmC d)).flatten) := by
          show _ = _
          rw [hcur.out, List.take_succ_eq_append_getElem hjp, List.map_append, List.flatten_append, List.map_singleton, List.flatten_singleton, List.append_assoc]
        have hln2 : Hid ((cur ++ nmC d ps[j]).length + ((ps.drop (j + 1)).map (cnt d)).sum ≤ 1000) := by
          show _ ≤ _; rw [List.length_append]; omega
        have hLne : Hid (L ≠ []) := fun e => by rw [e] at hlt; simp at hlt
        obtain ⟨z, hz⟩ : ∃ z, L[j] = z := ⟨_, rfl⟩
        obtain ⟨N, hN⟩ : ∃ N, cur ++ nmC d ps[j] = N := ⟨_, rfl⟩
        rw [hz] at hcell hc2
        simp only [hN] at hc2 hnx hln2
        subst hgg
        clear hz hN hll hl2 hnl
        go_wp2_with (first
          | (go_at_call 20; refine hc2.mono ?_; rintro e w3 ⟨u, rfl, ho3, hf3⟩))
        have hK3 : Hid _ := hK.out.fr hf3 hA.out
        have hA3 : Hid _ := apart_fr hK.out hLne.out hf3 hA.out
        have hF3 : Hid (Fr w w3 v u) := hF.out.trans hf3
        go_roundw
        case rel => exact ⟨j + 1, N, hlt, by go_num, ho3, hnx, hln2, hK3, hA3, hF3⟩
        case measure => simp [RowKit.intOf]; omega
      · have i3 : ¬ (j : Int) < (L.length : Int) := by omega
        have hE : cur = R := by
          have hll := hLl.out
          rw [hcur.out, ← HR.out, List.take_of_length_le (by omega)]
        subst hE
        go_wp2
        go_ret
        exact ⟨_, rfl, ho, hF.out⟩
theorem add_any2 : ∀ (d : Nat), AddC d
  | 0 => fun _ t => Empty.elim t
  | d + 1 => add_step d (add_any2 d)

set_option maxHeartbeats 2000000 in
theorem refs_anyP {d : Nat} {t : T d} (w : World) (hc : Cl d t) (hn : cnt d t ≤ 1000) (hs : shrt 1000 d t = true) :
    Calls Try.prog 12 #[exV d t] w fun e w' => ∃ u, e = .returned u ∧ RdS w' u (rfT d t) ∧ Below w.heap.size w w' := by
  have h1 := formedP d t w hc (by omega) hs
  have h2 := fun w1 (b : w.heap.size ≤ w1.heap.size) => add_any2 d w.heap.size t [] (.slice none 0 0) w1 hc hs (World.ownsRow_nil w1 _ 9 1) b (by simpa using hn)
  have hnl := nm_len d t
  have hnm := rf_nm d t []
  unfold rfT
  obtain ⟨x, hx⟩ : ∃ x, exV d t = x := ⟨_, rfl⟩
  rw [hx] at h1 ⊢
  simp only [hx, List.nil_append] at h2
  cases hf : fmC d t with
  | false =>
    rw [hf] at h1
    rw [if_neg (by decide)]
    clear h2 hc hn hs hf hx
    go_enter Try.func12, Try.ntmps12
    go_wp2_with (first
      | (go_at_call 11; refine h1.mono ?_; rintro e w1 ⟨rfl, b1⟩))
    go_ret
    exact ⟨_, rfl, rdS_nil _, b1⟩
  | true =>
    rw [hf] at h1
    rw [if_pos rfl, hnm]
    obtain ⟨N, hN⟩ : ∃ N, nmC d t = N := ⟨_, rfl⟩
    rw [hN] at hnl ⊢
    simp only [hN] at h2
    have hsn := sort_names N
    have h3 := fun v w1 q => pSort_any (base := w.heap.size) N v w1 q (by omega)
    obtain ⟨Z, hZ⟩ : ∃ Z, (N.map bl).mergeSort lrB = Z := ⟨_, rfl⟩
    have hZl : Z.length ≤ 1000 := by rw [← hZ]; simp; omega
    rw [hZ] at hsn
    simp only [hZ] at h3
    have h4 := fun v w1 q => pCompact_any (base := w.heap.size) Z v w1 q hZl
    clear hc hn hs hf hx hnm hN hZ hnl
    go_enter Try.func12, Try.ntmps12
    go_wp2_with (first
      | (go_at_call 11; refine h1.mono ?_; rintro e w1 ⟨rfl, b1⟩; have h2' := h2 w1 b1.size)
      | (go_at_call 20; refine h2'.mono ?_; rintro e w2 ⟨u2, rfl, ho2, hf2⟩; have h3' := h3 u2 w2 ho2)
      | (go_at_call 21; refine h3'.mono ?_; rintro e w3 ⟨rfl, ho3, hf3⟩; have h4' := h4 u2 w3 ho3)
      | (go_at_call 22; refine h4'.mono ?_; rintro e w4 ⟨u4, rfl, ho4, hf4⟩))
    go_ret
    have hF := (hf2.trans hf3).trans hf4
    refine ⟨_, rfl, ?_, b1.trans ((hF.below (B := w.heap.size) b1.size (fun g hg => by cases hg)))⟩
    rw [hsn, cS_enc, List.length_map] at ho4
    exact ownsRow_zero ho4
end Go.Proofs.Ytpdkmbifibkepaa

/- What Theirs makes of a tree. -/
namespace Go.Proofs.Ytpdkmbifibkepaa
open Go.RowKit
set_option linter.unusedSimpArgs false
set_option linter.unusedVariables false
attribute [local go_sem ↓] Go.wp_at_zero Go.wp_at_succ

def TheirsC (d : Nat) : Prop := ∀ (ok : Nat → Prop) (t : T d) (v : Value) (w : World), RdT ok w d t v → Calls Try.prog 7 #[v] w fun e w' => e = .returned (exV d t) ∧ Below w.heap.size w w'

theorem part_any {ok : Nat → Prop} {d : Nat} (IH : TheirsC d) (X i : Nat) (k n : Int) (s : ByteArray) (sl : Value) (ps : List (T d)) (w : World) (hA : At4 w X (.int .i64 k) (.int .i64 n) (.string s) sl) (hp : RdP ok w (RdT ok w d) ps sl) :
    Calls Try.prog 15 #[.int .i64 (i : Int), .pointer (some ⟨X, 0, none⟩)] w fun e w' => e = .returned (exP ps i) ∧ Below w.heap.size w w' := by
  obtain ⟨a, cap, rfl, hlc, hcm, hcell⟩ := hp.form
  obtain ⟨y0, y1, y2, y3⟩ := id hA
  by_cases hlt : i < ps.length
  · obtain ⟨b, off, c0, c1, c2, c3, rfl, hbl, hr, k0, k1, k2, k3⟩ := hcell i hlt
    have hcall := IH ok ps[i] _ w hr
    have he : exP ps i = exV d ps[i] := by unfold exP; rw [List.getD_eq_getElem?_getD, List.getElem?_map, List.getElem?_eq_getElem hlt]; rfl
    rw [he]
    have i1 : (i : Int) < (ps.length : Int) := by omega
    have i2 : (0 : Int) ≤ (i : Int) := by omega
    clear he hcell hr hp
    go_enter Try.func15, Try.ntmps15
    go_wp2_with (first
      | (go_at_call 7; refine hcall.mono ?_; rintro e w1 ⟨rfl, b1⟩))
    go_ret
    exact ⟨rfl, b1⟩
  · have he : exP ps i = .nilIface := by unfold exP; rw [List.getD_eq_getElem?_getD, List.getElem?_eq_none (by simp; omega)]; rfl
    rw [he]
    have i1 : ¬ (i : Int) < (ps.length : Int) := by omega
    clear he hcell hp
    go_enter Try.func15, Try.ntmps15
    go_wp2
    go_ret
    exact ⟨rfl, Below.refl _ _⟩

set_option maxRecDepth 100000 in
set_option maxHeartbeats 1000000 in
theorem theirs_step (d : Nat) (IH : TheirsC d) : TheirsC (d + 1) := by
  intro ok t v w h
  obtain ⟨k, n, s, ps, rfl⟩ := T.open t
  obtain ⟨sl, rfl, hp⟩ := rdT_mk.1 h
  rw [exV_mk]
  have hb0 := (Below.refl w.heap.size w).alloc (Nat.le_refl _) (.cells #[.int .i64 k, .int .i64 n, .string s, sl] 24)
  have hA := At4.new w (.int .i64 k) (.int .i64 n) (.string s) sl 24
  have hp0 : RdP ok (w.alloc (.cells #[.int .i64 k, .int .i64 n, .string s, sl] 24)) (RdT ok (w.alloc (.cells #[.int .i64 k, .int .i64 n, .string s, sl] 24)) d) ps sl := hp.below hb0 (Nat.le_refl _)
  have h0 := part_any IH w.heap.size 0 k n s sl ps _ hA hp0
  have h1 := fun w1 (b1 : Below (w.alloc (.cells #[.int .i64 k, .int .i64 n, .string s, sl] 24)).heap.size (w.alloc (.cells #[.int .i64 k, .int .i64 n, .string s, sl] 24)) w1) =>
    part_any IH w.heap.size 1 k n s sl ps w1 (hA.keepB b1 (by simp)) (hp0.below b1 (Nat.le_refl _))
  have hmf : ∀ (fn : Fn) (first cap : Array Value) (w : World), (Instr.makeFunc fn first cap).run Try.prog w = .ok (.func fn first cap) w := fun _ _ _ _ => rfl
  by_cases k1 : k = 1
  · subst k1
    rw [if_pos rfl]
    clear h0 h1 hp0 hA hp h
    go_enter Try.func7, Try.ntmps7
    go_wp2
    go_ret
    exact ⟨rfl, hb0⟩
  rw [if_neg k1]
  have e1 : (k == 1) = false := beq_eq_false_iff_ne.2 k1
  by_cases k2 : k = 2
  · subst k2
    rw [if_pos rfl]
    clear h0 h1 hp0 hA hp h k1 e1
    go_enter Try.func7, Try.ntmps7
    go_wp2
    go_ret
    exact ⟨rfl, hb0⟩
  rw [if_neg k2]
  have e2 : (k == 2) = false := beq_eq_false_iff_ne.2 k2
  by_cases k3 : k = 3
  · subst k3
    rw [if_pos rfl]
    have hf := exP_form ps 0
    obtain ⟨x0, hx0⟩ : ∃ x, exP ps 0 = x := ⟨_, rfl⟩
    rw [hx0] at h0 hf ⊢
    clear h1 hp0 hA hp h k1 k2 e1 e2 hx0
    rcases hf with rfl | ⟨u, x, rfl⟩
    · go_enter Try.func7, Try.ntmps7
      go_wp2_with (first
        | (go_at_call 15; refine h0.mono ?_; rintro e w1 ⟨rfl, b1⟩))
      go_ret
      exact ⟨rfl, hb0.trans (b1.mono hb0.size)⟩
    · go_enter Try.func7, Try.ntmps7
      go_wp2_with (first
        | (go_at_call 15; refine h0.mono ?_; rintro e w1 ⟨rfl, b1⟩))
      go_ret
      exact ⟨rfl, hb0.trans (b1.mono hb0.size)⟩
  rw [if_neg k3]
  have e3 : (k == 3) = false := beq_eq_false_iff_ne.2 k3
  by_cases k4 : k = 4
  · subst k4
    rw [if_pos rfl]
    have hf := exP_form ps 0
    obtain ⟨x0, hx0⟩ : ∃ x, exP ps 0 = x := ⟨_, rfl⟩
    rw [hx0] at h0 hf ⊢
    clear h1 hp0 hA hp h k1 k2 k3 e1 e2 e3 hx0
    rcases hf with rfl | ⟨u, x, rfl⟩
    · go_enter Try.func7, Try.ntmps7
      go_wp2_with (first
        | (go_at_call 15; refine h0.mono ?_; rintro e w1 ⟨rfl, b1⟩))
      go_ret
      exact ⟨rfl, hb0.trans (b1.mono hb0.size)⟩
    · go_enter Try.func7, Try.ntmps7
      go_wp2_with (first
        | (go_at_call 15; refine h0.mono ?_; rintro e w1 ⟨rfl, b1⟩))
      go_ret
      exact ⟨rfl, hb0.trans (b1.mono hb0.size)⟩
  rw [if_neg k4]
  have e4 : (k == 4) = false := beq_eq_false_iff_ne.2 k4
  by_cases k5 : k = 5
  · subst k5
    rw [if_pos rfl]
    have hf := exP_form ps 0
    have hg := exP_form ps 1
    have bd : Below (w.alloc (.cells #[.int .i64 5, .int .i64 n, .string s, sl] 24)).heap.size (w.alloc (.cells #[.int .i64 5, .int .i64 n, .string s, sl] 24)) (w.alloc (.cells #[.int .i64 5, .int .i64 n, .string s, sl] 24)).drew := (Below.refl _ _).drew
    have hA' := hA.keepB bd (by simp)
    have h0' := part_any IH w.heap.size 0 5 n s sl ps _ hA' (hp0.below bd (Nat.le_refl _))
    have c2 := hA'.2.2.1
    obtain ⟨x0, hx0⟩ : ∃ x, exP ps 0 = x := ⟨_, rfl⟩
    obtain ⟨x1, hx1⟩ : ∃ x, exP ps 1 = x := ⟨_, rfl⟩
    rw [hx0] at h0' hf ⊢
    rw [hx1] at hg ⊢
    simp only [hx1] at h1
    clear h0 hp0 hp h k1 k2 k3 k4 hx0 hx1 e1 e2 e3 e4
    rcases hf with rfl | ⟨u, x, rfl⟩
    · rcases hg with rfl | ⟨u', x', rfl⟩
      ·
        go_enter Try.func7, Try.ntmps7
        go_wp2
        go_region_held (fun w' => w'.cell? ⟨w.heap.size, 2, none⟩ = some (.string s)) (first | exact c2 | exact d2 | exact f2 | go_keep)
          (first
            | (go_at_call 15; refine h1'.mono ?_; rintro e w2 ⟨rfl, b2⟩; have bb := bx.trans (b2.mono bx.size); have f2 := (hA1.keepB b2 (World.block_lt_of_cell? w1 _ hA1.1)).2.2.1; clear h1')
            | (go_at_call 15; refine h0'.mono ?_; rintro e w1 ⟨rfl, b1⟩; have bx := (hb0.drew).trans (b1.mono (by simp)); have hA1 := hA'.keepB b1 (World.block_lt_of_cell? _ _ hA'.1); have d2 := hA1.2.2.1; have h1' := h1 w1 (bd.trans b1); clear h0'))
        go_wp2
        go_ret
        exact ⟨rfl, bb⟩
      ·
        go_enter Try.func7, Try.ntmps7
        go_wp2
        go_region_held (fun w' => w'.cell? ⟨w.heap.size, 2, none⟩ = some (.string s)) (first | exact c2 | exact d2 | exact f2 | go_keep)
          (first
            | (go_at_call 15; refine h1'.mono ?_; rintro e w2 ⟨rfl, b2⟩; have bb := bx.trans (b2.mono bx.size); have f2 := (hA1.keepB b2 (World.block_lt_of_cell? w1 _ hA1.1)).2.2.1; clear h1')
            | (go_at_call 15; refine h0'.mono ?_; rintro e w1 ⟨rfl, b1⟩; have bx := (hb0.drew).trans (b1.mono (by simp)); have hA1 := hA'.keepB b1 (World.block_lt_of_cell? _ _ hA'.1); have d2 := hA1.2.2.1; have h1' := h1 w1 (bd.trans b1); clear h0'))
        go_wp2
        go_ret
        exact ⟨rfl, bb⟩
    · rcases hg with rfl | ⟨u', x', rfl⟩
      ·
        go_enter Try.func7, Try.ntmps7
        go_wp2
        go_region_held (fun w' => w'.cell? ⟨w.heap.size, 2, none⟩ = some (.string s)) (first | exact c2 | exact d2 | exact f2 | go_keep)
          (first
            | (go_at_call 15; refine h1'.mono ?_; rintro e w2 ⟨rfl, b2⟩; have bb := bx.trans (b2.mono bx.size); have f2 := (hA1.keepB b2 (World.block_lt_of_cell? w1 _ hA1.1)).2.2.1; clear h1')
            | (go_at_call 15; refine h0'.mono ?_; rintro e w1 ⟨rfl, b1⟩; have bx := (hb0.drew).trans (b1.mono (by simp)); have hA1 := hA'.keepB b1 (World.block_lt_of_cell? _ _ hA'.1); have d2 := hA1.2.2.1; have h1' := h1 w1 (bd.trans b1); clear h0'))
        go_wp2
        go_ret
        exact ⟨rfl, bb⟩
      ·
        go_enter Try.func7, Try.ntmps7
        go_wp2
        go_region_held (fun w' => w'.cell? ⟨w.heap.size, 2, none⟩ = some (.string s)) (first | exact c2 | exact d2 | exact f2 | go_keep)
          (first
            | (go_at_call 15; refine h1'.mono ?_; rintro e w2 ⟨rfl, b2⟩; have bb := bx.trans (b2.mono bx.size); have f2 := (hA1.keepB b2 (World.block_lt_of_cell? w1 _ hA1.1)).2.2.1; clear h1')
            | (go_at_call 15; refine h0'.mono ?_; rintro e w1 ⟨rfl, b1⟩; have bx := (hb0.drew).trans (b1.mono (by simp)); have hA1 := hA'.keepB b1 (World.block_lt_of_cell? _ _ hA'.1); have d2 := hA1.2.2.1; have h1' := h1 w1 (bd.trans b1); clear h0'))
        go_wp2
        go_ret
        exact ⟨rfl, bb⟩
  rw [if_neg k5]
  have e5 : (k == 5) = false := beq_eq_false_iff_ne.2 k5
  clear h0 h1 hp0 hA hp h
  go_enter Try.func7, Try.ntmps7
  go_wp2
  go_ret
  exact ⟨rfl, hb0⟩
theorem theirs_any : ∀ (d : Nat), TheirsC d
  | 0 => fun _ t => Empty.elim t
  | d + 1 => theirs_step d (theirs_any d)

/-- An expression is that of its clean tree. -/
theorem exV_cln : ∀ (d : Nat) (t : T d), exV (d + 1) (cln d t) = exV d t
  | 0, t => Empty.elim t
  | d + 1, t => by
    obtain ⟨k, n, s, ps, rfl⟩ := T.open t
    have hp : ∀ i, exV (d + 1) (prt ps i) = exP ps i := fun i => by
      unfold prt exP
      rw [List.getD_eq_getElem?_getD, List.getElem?_map]
      cases ps[i]? with
      | none => rfl
      | some p => exact exV_cln d p
    rw [cln_mk, exV_mk]
    by_cases k1 : k = 1
    · rw [if_pos k1, if_pos k1]; rfl
    rw [if_neg k1, if_neg k1]
    by_cases k2 : k = 2
    · rw [if_pos k2, if_pos k2]; rfl
    rw [if_neg k2, if_neg k2]
    by_cases k3 : k = 3
    · rw [if_pos k3, if_pos k3, exV_mk, ← hp]; rfl
    rw [if_neg k3, if_neg k3]
    by_cases k4 : k = 4
    · rw [if_pos k4, if_pos k4, exV_mk, ← hp]; rfl
    rw [if_neg k4, if_neg k4]
    by_cases k5 : k = 5
    · rw [if_pos k5, if_pos k5, exV_mk, ← hp, ← hp]; rfl
    rw [if_neg k5, if_neg k5]
    rfl
end Go.Proofs.Ytpdkmbifibkepaa

/- The program's codeOf, Code. -/
namespace Go.Proofs.Ytpdkmbifibkepaa
open Go.RowKit Go.Lib
set_option linter.unusedSimpArgs false
set_option linter.unusedVariables false
attribute [local go_sem ↓] Go.wp_at_zero Go.wp_at_succ
theorem as_nil_lit (w : World) : (Instr.typeAssert .nilIface 36 52 true).run Try.prog w = .ok (.tuple #[.agg #[.int .i64 0], .bool false]) w := by kernel_rfl
theorem as_nil_ref (w : World) : (Instr.typeAssert .nilIface 36 54 true).run Try.prog w = .ok (.tuple #[.agg #[.string ⟨#[]⟩], .bool false]) w := by kernel_rfl
theorem as_nil_not (w : World) : (Instr.typeAssert .nilIface 36 56 true).run Try.prog w = .ok (.tuple #[.agg #[.nilIface], .bool false]) w := by kernel_rfl
theorem as_nil_neg (w : World) : (Instr.typeAssert .nilIface 36 57 true).run Try.prog w = .ok (.tuple #[.agg #[.nilIface], .bool false]) w := by kernel_rfl
theorem as_nil_bin (w : World) : (Instr.typeAssert .nilIface 36 59 true).run Try.prog w = .ok (.tuple #[.agg #[.string ⟨#[]⟩, .nilIface, .nilIface], .bool false]) w := by kernel_rfl
attribute [local go_sem] as_nil_lit as_nil_ref as_nil_not as_nil_neg as_nil_bin as_lit_lit as_ref_lit as_ref_ref as_not_lit as_not_ref as_not_not as_neg_lit as_neg_ref as_neg_not as_neg_neg as_bin_lit as_bin_ref as_bin_not as_bin_neg as_bin_bin
def CdP (d : Nat) : Prop := ∀ (vs : List Vr) (t : T d) (vv : Value) (w : World), Cl d t → shrt 1000 d t = true → cnt d t ≤ 10000 → RdV w vv vs → vs.length ≤ 10000 →
  Calls Try.prog 14 #[exV d t, vv] w fun e w' => ∃ a n c, e = .returned (.slice a n c) ∧ OwnI w' w.heap.size 43 (.slice a n c) (cdC vs d t) ∧ Below w.heap.size w w'
theorem exV_ifc (d : Nat) (t : T d) (h : Cl d t) : Ifc (exV d t) := by
  cases d with
  | zero => exact Empty.elim t
  | succ d =>
    rcases h.cases with ⟨n, rfl⟩ | ⟨s, rfl⟩ | ⟨k, p, hk, rfl, hp⟩ | ⟨s, p, q, rfl, hp, hq⟩ | rfl
    · exact .inr ⟨_, _, rfl⟩
    · exact .inr ⟨_, _, rfl⟩
    · rcases hk with rfl | rfl
      · exact .inr ⟨_, _, rfl⟩
      · exact .inr ⟨_, _, rfl⟩
    · exact .inr ⟨_, _, rfl⟩
    · exact .inl rfl
set_option maxRecDepth 100000 in
set_option maxHeartbeats 4000000 in
theorem cd_lit (n : Int) (vv : Value) (hv : ∃ a n c, vv = .slice a n c) (w : World) : Calls Try.prog 14 #[.iface 52 (.agg #[.int .i64 n]), vv] w fun e w' => ∃ a k c, e = .returned (.slice a k c) ∧ OwnI w' w.heap.size 43 (.slice a k c) [(wPush, n)] ∧ Below w.heap.size w w' := by
  obtain ⟨va, vn, vc, rfl⟩ := hv
  have hal : Below w.heap.size w (w.alloc (.cells #[.int .i64 n] 52)) := (Below.refl _ _).alloc (Nat.le_refl _) _
  have hN := ownI_new (w.alloc (.cells #[.int .i64 n] 52)) 43 ⟨#[112, 117, 115, 104]⟩ n w.heap.size hal.size
  go_enter Try.func14, Try.ntmps14
  go_wp2
  go_ret
  exact ⟨_, _, _, rfl, by simpa [wPush] using hN, hal.alloc hal.size _⟩
set_option maxRecDepth 100000 in
set_option maxHeartbeats 4000000 in
theorem cd_ref (s : ByteArray) {vs : List Vr} {vv : Value} {w : World} (hv : RdV w vv vs) (hl : vs.length ≤ 10000) : Calls Try.prog 14 #[.iface 54 (.agg #[.string s]), vv] w fun e w' => ∃ a k c, e = .returned (.slice a k c) ∧ OwnI w' w.heap.size 43 (.slice a k c) [(wLoad, vix s vs 0)] ∧ Below w.heap.size w w' := by
  have hal : Below w.heap.size w (w.alloc (.cells #[.string s] 54)) := (Below.refl _ _).alloc (Nat.le_refl _) _
  have hc := numberOf_any (hv.below hal (Nat.le_refl _)) hl s
  obtain ⟨a, cap, rfl, hlc, hcm, _⟩ := hv.form
  obtain ⟨V, hV⟩ : ∃ V, vix s vs 0 = V := ⟨_, rfl⟩
  have hV1 := vix_ge s vs 0
  have hV2 := vix_lt s vs 0
  rw [hV] at hc hV1 hV2 ⊢
  clear hV hv
  have hN := fun w1 (b : w.heap.size ≤ w1.heap.size) => ownI_new w1 43 ⟨#[108, 111, 97, 100]⟩ V w.heap.size b
  go_enter Try.func14, Try.ntmps14
  go_wp2_with (first
    | (go_at_call 13; refine hc.mono ?_; rintro e w1 ⟨rfl, b1⟩)
    | fail)
  go_ret
  have hb1 := hal.trans (b1.mono hal.size)
  exact ⟨_, _, _, rfl, hN _ hb1.size, hb1.alloc hb1.size _⟩
set_option maxRecDepth 100000 in
set_option maxHeartbeats 4000000 in
theorem cd_one (k : Int) (hk : k = 3 ∨ k = 4) {x : Value} (hx : Ifc x) {vv : Value} (hvv : ∃ a n c, vv = .slice a n c) {w : World} {l : List Ins} (hle : l.length ≤ 50000)
    (hc : ∀ w1, Below w.heap.size w w1 → Calls Try.prog 14 #[x, vv] w1 fun e w' => ∃ a n c, e = .returned (.slice a n c) ∧ OwnI w' w1.heap.size 43 (.slice a n c) l ∧ Below w1.heap.size w1 w') :
    Calls Try.prog 14 #[.iface (if k = 3 then 56 else 57) (.agg #[x]), vv] w fun e w' => ∃ a n c, e = .returned (.slice a n c) ∧ OwnI w' w.heap.size 43 (.slice a n c) (l ++ [(if k = 3 then wNot else wNeg, 0)]) ∧ Below w.heap.size w w' := by
  obtain ⟨va, vn, vc, rfl⟩ := hvv
  have hsn := fun w1 s => srcI_new (tx := 31) Try.underlying31 w1 s 0
  rcases hk with rfl | rfl
  · simp only [if_true]
    have hal : Below w.heap.size w (w.alloc (.cells #[x] 56)) := (Below.refl _ _).alloc (Nat.le_refl _) _
    have hc1 := hc _ hal
    rcases hx with rfl | ⟨u, y, rfl⟩
    all_goals (
      go_enter Try.func14, Try.ntmps14
      go_wp2_with (first
        | (go_at_call 14; refine hc1.mono ?_; rintro e w1 ⟨ra, rn, rc, rfl, ho, b1⟩; have hb1 := hal.trans (b1.mono hal.size); have hal2 : Below w1.heap.size w1 (w1.alloc (.cells #[.string ⟨#[110, 111, 116]⟩, .int .i64 0] 43)) := (Below.refl _ _).alloc (Nat.le_refl _) _; have ho2 := (ho.low hal.size).on hal2; have hb2 := hb1.trans (hal2.mono hb1.size); have s2 := hsn w1 ⟨#[110, 111, 116]⟩)
        | (at_builtin; refine appI rfl _ _ rfl w.heap.size _ l rfl ho2 _ [((⟨#[110, 111, 116]⟩ : ByteArray), (0 : Int))] rfl s2 (by simp; omega) hb2.size ?_; intro vf mf vg w5 HMF ho6 hg6 hat6)
        | fail)
      go_ret
      exact ⟨_, _, _, rfl, ho6, hb2.grown hg6 hb2.size (fun k hk => (ho2.lt k hk).1)⟩)
  · rw [if_neg (by decide), if_neg (by decide)]
    have hal : Below w.heap.size w (w.alloc (.cells #[x] 57)) := (Below.refl _ _).alloc (Nat.le_refl _) _
    have hc1 := hc _ hal
    rcases hx with rfl | ⟨u, y, rfl⟩
    all_goals (
      go_enter Try.func14, Try.ntmps14
      go_wp2_with (first
        | (go_at_call 14; refine hc1.mono ?_; rintro e w1 ⟨ra, rn, rc, rfl, ho, b1⟩; have hb1 := hal.trans (b1.mono hal.size); have hal2 : Below w1.heap.size w1 (w1.alloc (.cells #[.string ⟨#[110, 101, 103]⟩, .int .i64 0] 43)) := (Below.refl _ _).alloc (Nat.le_refl _) _; have ho2 := (ho.low hal.size).on hal2; have hb2 := hb1.trans (hal2.mono hb1.size); have s2 := hsn w1 ⟨#[110, 101, 103]⟩)
        | (at_builtin; refine appI rfl _ _ rfl w.heap.size _ l rfl ho2 _ [((⟨#[110, 101, 103]⟩ : ByteArray), (0 : Int))] rfl s2 (by simp; omega) hb2.size ?_; intro vf mf vg w5 HMF ho6 hg6 hat6)
        | fail)
      go_ret
      exact ⟨_, _, _, rfl, ho6, hb2.grown hg6 hb2.size (fun k hk => (ho2.lt k hk).1)⟩)
theorem two_apart {w3 w4 : World} {b1 b2 : Nat} {e : TypeId} {v u : Value} {l r : List Ins} (h1 : OwnI w3 b1 e v l) (h2 : OwnI w4 b2 e u r) (hle : w3.heap.size ≤ b2) : Apart v u := fun g hg hu => by
  have h3 := (h1.lt g hg).2
  have h4 := (h2.lt g hu).1
  omega
theorem cellI_dr {w : World} {p : Addr} {v : Value} (h : w.cell? p = some v) : w.drew.cell? p = some v := h
theorem Below.nxI {w wc w1 : World} (h : Below w.heap.size w wc) (b : Below wc.heap.size wc w1) : Below w.heap.size w w1 := h.trans (b.mono h.size)
theorem Below.nxdI {w wc w1 : World} (h : Below w.heap.size w wc) (b : Below wc.drew.heap.size wc.drew w1) : Below w.heap.size w w1 := (h.drew).trans (b.mono h.size)
theorem OwnI.dr {w : World} {base : Nat} {e : TypeId} {v : Value} {l : List Ins} (h : OwnI w base e v l) : OwnI w.drew base e v l := h
set_option maxRecDepth 100000 in
set_option maxHeartbeats 8000000 in
theorem cd_bin (s : ByteArray) (hsz : s.size ≤ 1000) {x y : Value} (hx : Ifc x) (hy : Ifc y) {vv : Value} (hvv : ∃ a n c, vv = .slice a n c) {w : World} {l r : List Ins} (hle : l.length + r.length ≤ 50000)
    (hc : ∀ w1, Below w.heap.size w w1 → Calls Try.prog 14 #[x, vv] w1 fun e w' => ∃ a n c, e = .returned (.slice a n c) ∧ OwnI w' w1.heap.size 43 (.slice a n c) l ∧ Below w1.heap.size w1 w')
    (hd : ∀ w1, Below w.heap.size w w1 → Calls Try.prog 14 #[y, vv] w1 fun e w' => ∃ a n c, e = .returned (.slice a n c) ∧ OwnI w' w1.heap.size 43 (.slice a n c) r ∧ Below w1.heap.size w1 w') :
    Calls Try.prog 14 #[.iface 59 (.agg #[.string s, x, y]), vv] w fun e w' => ∃ a n c, e = .returned (.slice a n c) ∧ OwnI w' w.heap.size 43 (.slice a n c) (binI s l r) ∧ Below w.heap.size w w' := by
  obtain ⟨va, vn, vc, rfl⟩ := hvv
  have hal : Below w.heap.size w (w.alloc (.cells #[.string s, x, y] 59)) := (Below.refl _ _).alloc (Nat.le_refl _) _
  have hX : Bn (w.alloc (.cells #[.string s, x, y] 59)) w.heap.size [.string s, x, y] := Bn.new w [.string s, x, y] 59 _ rfl
  rcases hx with rfl | ⟨u, x, rfl⟩
  · rcases hy with rfl | ⟨u', y, rfl⟩
    · go_enter Try.func14, Try.ntmps14
      go_upto_region 16 with fail
      generalize (w.alloc (.cells #[.string s, .nilIface, .nilIface] 59)) = wx at *
      obtain ⟨z0, _⟩ := hX 0 _ rfl
      obtain ⟨z1, _⟩ := hX 1 _ rfl
      obtain ⟨z2, _⟩ := hX 2 _ rfl
      have hXl := hX.lt
      have hcx : ∀ w1, Below wx.heap.size wx w1 → Calls Try.prog 14 #[.nilIface, .slice va vn vc] w1 fun e w' => ∃ a n c, e = .returned (.slice a n c) ∧ OwnI w' w1.heap.size 43 (.slice a n c) l ∧ Below w1.heap.size w1 w' := fun w1 b => hc w1 (hal.trans (b.mono hal.size))
      have hdx : ∀ w1, Below wx.heap.size wx w1 → Calls Try.prog 14 #[.nilIface, .slice va vn vc] w1 fun e w' => ∃ a n c, e = .returned (.slice a n c) ∧ OwnI w' w1.heap.size 43 (.slice a n c) r ∧ Below w1.heap.size w1 w' := fun w1 b => hd w1 (hal.trans (b.mono hal.size))
      have hwl : w.heap.size ≤ wx.heap.size := hal.size
      have hb : ∀ w1 la ln lc ra rn rc, OwnI w1 wx.heap.size 43 (.slice la ln lc) l → OwnI w1 wx.heap.size 43 (.slice ra rn rc) r → Apart (.slice la ln lc) (.slice ra rn rc) → wx.heap.size ≤ w1.heap.size → Calls Try.prog 25 #[.string s, .slice la ln lc, .slice ra rn rc] w1 fun e w' => ∃ a n c, e = .returned (.slice a n c) ∧ OwnI w' wx.heap.size 43 (.slice a n c) (binI s l r) ∧ Below wx.heap.size w1 w' := fun w1 la ln lc ra rn rc h1 h2 h3 h4 => binCode_any wx.heap.size s h1 h2 h3 hle h4 (by omega)
      clear hc hd hX
      obtain ⟨Xb, hXb⟩ : ∃ Xb, w.heap.size = Xb := ⟨_, rfl⟩
      rw [hXb] at z0 z1 z2 hXl hwl ⊢
      have HXB := hidI hXb
      have HAL := hidI hal
      clear hXb hal
      have hB := Below.refl wx.heap.size wx
      have y0 := z0
      have y1 := z1
      have y2 := z2
      go_region_held_law (fun w' => w'.cell? ⟨Xb, 0, none⟩ = some (.string s) ∧ w'.cell? ⟨Xb, 1, none⟩ = some (.nilIface) ∧ w'.cell? ⟨Xb, 2, none⟩ = some (.nilIface))
        ((refine ⟨?_, ?_, ?_⟩ <;> (repeat (first | (with_reducible exact y0) | (with_reducible exact y1) | (with_reducible exact y2) | (with_reducible refine cellI_dr ?_))) <;> done))
        (first
          | (go_at_call 25; (first | (with_reducible refine (hb _ _ _ _ _ _ _ hoL hoR hap hszB).mono ?_) | (with_reducible refine (hb _ _ _ _ _ _ _ hoL.dr hoR.dr hap hszB).mono ?_)); rintro e w7 ⟨ta, tn, tc, rfl, hoT, bT⟩; (first | have hB := hB.trans bT | have hB := hB.drew.trans bT); have y0 := (hB.cell (p := ⟨Xb, 0, none⟩) hXl).trans z0; have y1 := (hB.cell (p := ⟨Xb, 1, none⟩) hXl).trans z1; have y2 := (hB.cell (p := ⟨Xb, 2, none⟩) hXl).trans z2)
          | (go_at_call 14; (first | (with_reducible refine (hdx _ hB1).mono ?_) | (with_reducible refine (hdx _ hB1.drew).mono ?_)); rintro e w4 ⟨ra, rn, rc, rfl, hoR, bR⟩; have hap := two_apart hoL hoR (by simp); have hoR := hoR.low (lo := wx.heap.size) (by have h9 := hB1.size; (try simp only [World.drew] at h9 ⊢); omega); have hoL := hoL.on (w' := w4) (by first | exact bR | exact ((Below.refl _ _).drew).trans bR); (first | have hB := Below.nxI hB1 bR | have hB := Below.nxdI hB1 bR); have y0 := (hB.cell (p := ⟨Xb, 0, none⟩) hXl).trans z0; have y1 := (hB.cell (p := ⟨Xb, 1, none⟩) hXl).trans z1; have y2 := (hB.cell (p := ⟨Xb, 2, none⟩) hXl).trans z2; have hszB : wx.heap.size ≤ w4.heap.size := by have h9 := hB.size; omega)
          | (go_at_call 14; (first | (with_reducible refine (hcx _ hB).mono ?_) | (with_reducible refine (hcx _ hB.drew).mono ?_)); rintro e w3 ⟨la, ln, lc, rfl, hoL, bL⟩; have hoL := hoL.low (lo := wx.heap.size) (by have h9 := hB.size; (try simp only [World.drew] at h9 ⊢); omega); (first | have hB := Below.nxI hB bL | have hB := Below.nxdI hB bL); have hB1 := hB; have y0 := (hB.cell (p := ⟨Xb, 0, none⟩) hXl).trans z0; have y1 := (hB.cell (p := ⟨Xb, 1, none⟩) hXl).trans z1; have y2 := (hB.cell (p := ⟨Xb, 2, none⟩) hXl).trans z2)
          | fail)
      all_goals (
        go_wp2
        go_ret
        exact ⟨_, _, _, rfl, hoT.low HAL.out.size, HAL.out.trans (hB.mono HAL.out.size)⟩)
    · go_enter Try.func14, Try.ntmps14
      go_upto_region 16 with fail
      generalize (w.alloc (.cells #[.string s, .nilIface, .iface u' y] 59)) = wx at *
      obtain ⟨z0, _⟩ := hX 0 _ rfl
      obtain ⟨z1, _⟩ := hX 1 _ rfl
      obtain ⟨z2, _⟩ := hX 2 _ rfl
      have hXl := hX.lt
      have hcx : ∀ w1, Below wx.heap.size wx w1 → Calls Try.prog 14 #[.nilIface, .slice va vn vc] w1 fun e w' => ∃ a n c, e = .returned (.slice a n c) ∧ OwnI w' w1.heap.size 43 (.slice a n c) l ∧ Below w1.heap.size w1 w' := fun w1 b => hc w1 (hal.trans (b.mono hal.size))
      have hdx : ∀ w1, Below wx.heap.size wx w1 → Calls Try.prog 14 #[.iface u' y, .slice va vn vc] w1 fun e w' => ∃ a n c, e = .returned (.slice a n c) ∧ OwnI w' w1.heap.size 43 (.slice a n c) r ∧ Below w1.heap.size w1 w' := fun w1 b => hd w1 (hal.trans (b.mono hal.size))
      have hwl : w.heap.size ≤ wx.heap.size := hal.size
      have hb : ∀ w1 la ln lc ra rn rc, OwnI w1 wx.heap.size 43 (.slice la ln lc) l → OwnI w1 wx.heap.size 43 (.slice ra rn rc) r → Apart (.slice la ln lc) (.slice ra rn rc) → wx.heap.size ≤ w1.heap.size → Calls Try.prog 25 #[.string s, .slice la ln lc, .slice ra rn rc] w1 fun e w' => ∃ a n c, e = .returned (.slice a n c) ∧ OwnI w' wx.heap.size 43 (.slice a n c) (binI s l r) ∧ Below wx.heap.size w1 w' := fun w1 la ln lc ra rn rc h1 h2 h3 h4 => binCode_any wx.heap.size s h1 h2 h3 hle h4 (by omega)
      clear hc hd hX
      obtain ⟨Xb, hXb⟩ : ∃ Xb, w.heap.size = Xb := ⟨_, rfl⟩
      rw [hXb] at z0 z1 z2 hXl hwl ⊢
      have HXB := hidI hXb
      have HAL := hidI hal
      clear hXb hal
      have hB := Below.refl wx.heap.size wx
      have y0 := z0
      have y1 := z1
      have y2 := z2
      go_region_held_law (fun w' => w'.cell? ⟨Xb, 0, none⟩ = some (.string s) ∧ w'.cell? ⟨Xb, 1, none⟩ = some (.nilIface) ∧ w'.cell? ⟨Xb, 2, none⟩ = some (.iface u' y))
        ((refine ⟨?_, ?_, ?_⟩ <;> (repeat (first | (with_reducible exact y0) | (with_reducible exact y1) | (with_reducible exact y2) | (with_reducible refine cellI_dr ?_))) <;> done))
        (first
          | (go_at_call 25; (first | (with_reducible refine (hb _ _ _ _ _ _ _ hoL hoR hap hszB).mono ?_) | (with_reducible refine (hb _ _ _ _ _ _ _ hoL.dr hoR.dr hap hszB).mono ?_)); rintro e w7 ⟨ta, tn, tc, rfl, hoT, bT⟩; (first | have hB := hB.trans bT | have hB := hB.drew.trans bT); have y0 := (hB.cell (p := ⟨Xb, 0, none⟩) hXl).trans z0; have y1 := (hB.cell (p := ⟨Xb, 1, none⟩) hXl).trans z1; have y2 := (hB.cell (p := ⟨Xb, 2, none⟩) hXl).trans z2)
          | (go_at_call 14; (first | (with_reducible refine (hdx _ hB1).mono ?_) | (with_reducible refine (hdx _ hB1.drew).mono ?_)); rintro e w4 ⟨ra, rn, rc, rfl, hoR, bR⟩; have hap := two_apart hoL hoR (by simp); have hoR := hoR.low (lo := wx.heap.size) (by have h9 := hB1.size; (try simp only [World.drew] at h9 ⊢); omega); have hoL := hoL.on (w' := w4) (by first | exact bR | exact ((Below.refl _ _).drew).trans bR); (first | have hB := Below.nxI hB1 bR | have hB := Below.nxdI hB1 bR); have y0 := (hB.cell (p := ⟨Xb, 0, none⟩) hXl).trans z0; have y1 := (hB.cell (p := ⟨Xb, 1, none⟩) hXl).trans z1; have y2 := (hB.cell (p := ⟨Xb, 2, none⟩) hXl).trans z2; have hszB : wx.heap.size ≤ w4.heap.size := by have h9 := hB.size; omega)
          | (go_at_call 14; (first | (with_reducible refine (hcx _ hB).mono ?_) | (with_reducible refine (hcx _ hB.drew).mono ?_)); rintro e w3 ⟨la, ln, lc, rfl, hoL, bL⟩; have hoL := hoL.low (lo := wx.heap.size) (by have h9 := hB.size; (try simp only [World.drew] at h9 ⊢); omega); (first | have hB := Below.nxI hB bL | have hB := Below.nxdI hB bL); have hB1 := hB; have y0 := (hB.cell (p := ⟨Xb, 0, none⟩) hXl).trans z0; have y1 := (hB.cell (p := ⟨Xb, 1, none⟩) hXl).trans z1; have y2 := (hB.cell (p := ⟨Xb, 2, none⟩) hXl).trans z2)
          | fail)
      all_goals (
        go_wp2
        go_ret
        exact ⟨_, _, _, rfl, hoT.low HAL.out.size, HAL.out.trans (hB.mono HAL.out.size)⟩)
  · rcases hy with rfl | ⟨u', y, rfl⟩
    · go_enter Try.func14, Try.ntmps14
      go_upto_region 16 with fail
      generalize (w.alloc (.cells #[.string s, .iface u x, .nilIface] 59)) = wx at *
      obtain ⟨z0, _⟩ := hX 0 _ rfl
      obtain ⟨z1, _⟩ := hX 1 _ rfl
      obtain ⟨z2, _⟩ := hX 2 _ rfl
      have hXl := hX.lt
      have hcx : ∀ w1, Below wx.heap.size wx w1 → Calls Try.prog 14 #[.iface u x, .slice va vn vc] w1 fun e w' => ∃ a n c, e = .returned (.slice a n c) ∧ OwnI w' w1.heap.size 43 (.slice a n c) l ∧ Below w1.heap.size w1 w' := fun w1 b => hc w1 (hal.trans (b.mono hal.size))
      have hdx : ∀ w1, Below wx.heap.size wx w1 → Calls Try.prog 14 #[.nilIface, .slice va vn vc] w1 fun e w' => ∃ a n c, e = .returned (.slice a n c) ∧ OwnI w' w1.heap.size 43 (.slice a n c) r ∧ Below w1.heap.size w1 w' := fun w1 b => hd w1 (hal.trans (b.mono hal.size))
      have hwl : w.heap.size ≤ wx.heap.size := hal.size
      have hb : ∀ w1 la ln lc ra rn rc, OwnI w1 wx.heap.size 43 (.slice la ln lc) l → OwnI w1 wx.heap.size 43 (.slice ra rn rc) r → Apart (.slice la ln lc) (.slice ra rn rc) → wx.heap.size ≤ w1.heap.size → Calls Try.prog 25 #[.string s, .slice la ln lc, .slice ra rn rc] w1 fun e w' => ∃ a n c, e = .returned (.slice a n c) ∧ OwnI w' wx.heap.size 43 (.slice a n c) (binI s l r) ∧ Below wx.heap.size w1 w' := fun w1 la ln lc ra rn rc h1 h2 h3 h4 => binCode_any wx.heap.size s h1 h2 h3 hle h4 (by omega)
      clear hc hd hX
      obtain ⟨Xb, hXb⟩ : ∃ Xb, w.heap.size = Xb := ⟨_, rfl⟩
      rw [hXb] at z0 z1 z2 hXl hwl ⊢
      have HXB := hidI hXb
      have HAL := hidI hal
      clear hXb hal
      have hB := Below.refl wx.heap.size wx
      have y0 := z0
      have y1 := z1
      have y2 := z2
      go_region_held_law (fun w' => w'.cell? ⟨Xb, 0, none⟩ = some (.string s) ∧ w'.cell? ⟨Xb, 1, none⟩ = some (.iface u x) ∧ w'.cell? ⟨Xb, 2, none⟩ = some (.nilIface))
        ((refine ⟨?_, ?_, ?_⟩ <;> (repeat (first | (with_reducible exact y0) | (with_reducible exact y1) | (with_reducible exact y2) | (with_reducible refine cellI_dr ?_))) <;> done))
        (first
          | (go_at_call 25; (first | (with_reducible refine (hb _ _ _ _ _ _ _ hoL hoR hap hszB).mono ?_) | (with_reducible refine (hb _ _ _ _ _ _ _ hoL.dr hoR.dr hap hszB).mono ?_)); rintro e w7 ⟨ta, tn, tc, rfl, hoT, bT⟩; (first | have hB := hB.trans bT | have hB := hB.drew.trans bT); have y0 := (hB.cell (p := ⟨Xb, 0, none⟩) hXl).trans z0; have y1 := (hB.cell (p := ⟨Xb, 1, none⟩) hXl).trans z1; have y2 := (hB.cell (p := ⟨Xb, 2, none⟩) hXl).trans z2)
          | (go_at_call 14; (first | (with_reducible refine (hdx _ hB1).mono ?_) | (with_reducible refine (hdx _ hB1.drew).mono ?_)); rintro e w4 ⟨ra, rn, rc, rfl, hoR, bR⟩; have hap := two_apart hoL hoR (by simp); have hoR := hoR.low (lo := wx.heap.size) (by have h9 := hB1.size; (try simp only [World.drew] at h9 ⊢); omega); have hoL := hoL.on (w' := w4) (by first | exact bR | exact ((Below.refl _ _).drew).trans bR); (first | have hB := Below.nxI hB1 bR | have hB := Below.nxdI hB1 bR); have y0 := (hB.cell (p := ⟨Xb, 0, none⟩) hXl).trans z0; have y1 := (hB.cell (p := ⟨Xb, 1, none⟩) hXl).trans z1; have y2 := (hB.cell (p := ⟨Xb, 2, none⟩) hXl).trans z2; have hszB : wx.heap.size ≤ w4.heap.size := by have h9 := hB.size; omega)
          | (go_at_call 14; (first | (with_reducible refine (hcx _ hB).mono ?_) | (with_reducible refine (hcx _ hB.drew).mono ?_)); rintro e w3 ⟨la, ln, lc, rfl, hoL, bL⟩; have hoL := hoL.low (lo := wx.heap.size) (by have h9 := hB.size; (try simp only [World.drew] at h9 ⊢); omega); (first | have hB := Below.nxI hB bL | have hB := Below.nxdI hB bL); have hB1 := hB; have y0 := (hB.cell (p := ⟨Xb, 0, none⟩) hXl).trans z0; have y1 := (hB.cell (p := ⟨Xb, 1, none⟩) hXl).trans z1; have y2 := (hB.cell (p := ⟨Xb, 2, none⟩) hXl).trans z2)
          | fail)
      all_goals (
        go_wp2
        go_ret
        exact ⟨_, _, _, rfl, hoT.low HAL.out.size, HAL.out.trans (hB.mono HAL.out.size)⟩)
    · go_enter Try.func14, Try.ntmps14
      go_upto_region 16 with fail
      generalize (w.alloc (.cells #[.string s, .iface u x, .iface u' y] 59)) = wx at *
      obtain ⟨z0, _⟩ := hX 0 _ rfl
      obtain ⟨z1, _⟩ := hX 1 _ rfl
      obtain ⟨z2, _⟩ := hX 2 _ rfl
      have hXl := hX.lt
      have hcx : ∀ w1, Below wx.heap.size wx w1 → Calls Try.prog 14 #[.iface u x, .slice va vn vc] w1 fun e w' => ∃ a n c, e = .returned (.slice a n c) ∧ OwnI w' w1.heap.size 43 (.slice a n c) l ∧ Below w1.heap.size w1 w' := fun w1 b => hc w1 (hal.trans (b.mono hal.size))
      have hdx : ∀ w1, Below wx.heap.size wx w1 → Calls Try.prog 14 #[.iface u' y, .slice va vn vc] w1 fun e w' => ∃ a n c, e = .returned (.slice a n c) ∧ OwnI w' w1.heap.size 43 (.slice a n c) r ∧ Below w1.heap.size w1 w' := fun w1 b => hd w1 (hal.trans (b.mono hal.size))
      have hwl : w.heap.size ≤ wx.heap.size := hal.size
      have hb : ∀ w1 la ln lc ra rn rc, OwnI w1 wx.heap.size 43 (.slice la ln lc) l → OwnI w1 wx.heap.size 43 (.slice ra rn rc) r → Apart (.slice la ln lc) (.slice ra rn rc) → wx.heap.size ≤ w1.heap.size → Calls Try.prog 25 #[.string s, .slice la ln lc, .slice ra rn rc] w1 fun e w' => ∃ a n c, e = .returned (.slice a n c) ∧ OwnI w' wx.heap.size 43 (.slice a n c) (binI s l r) ∧ Below wx.heap.size w1 w' := fun w1 la ln lc ra rn rc h1 h2 h3 h4 => binCode_any wx.heap.size s h1 h2 h3 hle h4 (by omega)
      clear hc hd hX
      obtain ⟨Xb, hXb⟩ : ∃ Xb, w.heap.size = Xb := ⟨_, rfl⟩
      rw [hXb] at z0 z1 z2 hXl hwl ⊢
      have HXB := hidI hXb
      have HAL := hidI hal
      clear hXb hal
      have hB := Below.refl wx.heap.size wx
      have y0 := z0
      have y1 := z1
      have y2 := z2
      go_region_held_law (fun w' => w'.cell? ⟨Xb, 0, none⟩ = some (.string s) ∧ w'.cell? ⟨Xb, 1, none⟩ = some (.iface u x) ∧ w'.cell? ⟨Xb, 2, none⟩ = some (.iface u' y))
        ((refine ⟨?_, ?_, ?_⟩ <;> (repeat (first | (with_reducible exact y0) | (with_reducible exact y1) | (with_reducible exact y2) | (with_reducible refine cellI_dr ?_))) <;> done))
        (first
          | (go_at_call 25; (first | (with_reducible refine (hb _ _ _ _ _ _ _ hoL hoR hap hszB).mono ?_) | (with_reducible refine (hb _ _ _ _ _ _ _ hoL.dr hoR.dr hap hszB).mono ?_)); rintro e w7 ⟨ta, tn, tc, rfl, hoT, bT⟩; (first | have hB := hB.trans bT | have hB := hB.drew.trans bT); have y0 := (hB.cell (p := ⟨Xb, 0, none⟩) hXl).trans z0; have y1 := (hB.cell (p := ⟨Xb, 1, none⟩) hXl).trans z1; have y2 := (hB.cell (p := ⟨Xb, 2, none⟩) hXl).trans z2)
          | (go_at_call 14; (first | (with_reducible refine (hdx _ hB1).mono ?_) | (with_reducible refine (hdx _ hB1.drew).mono ?_)); rintro e w4 ⟨ra, rn, rc, rfl, hoR, bR⟩; have hap := two_apart hoL hoR (by simp); have hoR := hoR.low (lo := wx.heap.size) (by have h9 := hB1.size; (try simp only [World.drew] at h9 ⊢); omega); have hoL := hoL.on (w' := w4) (by first | exact bR | exact ((Below.refl _ _).drew).trans bR); (first | have hB := Below.nxI hB1 bR | have hB := Below.nxdI hB1 bR); have y0 := (hB.cell (p := ⟨Xb, 0, none⟩) hXl).trans z0; have y1 := (hB.cell (p := ⟨Xb, 1, none⟩) hXl).trans z1; have y2 := (hB.cell (p := ⟨Xb, 2, none⟩) hXl).trans z2; have hszB : wx.heap.size ≤ w4.heap.size := by have h9 := hB.size; omega)
          | (go_at_call 14; (first | (with_reducible refine (hcx _ hB).mono ?_) | (with_reducible refine (hcx _ hB.drew).mono ?_)); rintro e w3 ⟨la, ln, lc, rfl, hoL, bL⟩; have hoL := hoL.low (lo := wx.heap.size) (by have h9 := hB.size; (try simp only [World.drew] at h9 ⊢); omega); (first | have hB := Below.nxI hB bL | have hB := Below.nxdI hB bL); have hB1 := hB; have y0 := (hB.cell (p := ⟨Xb, 0, none⟩) hXl).trans z0; have y1 := (hB.cell (p := ⟨Xb, 1, none⟩) hXl).trans z1; have y2 := (hB.cell (p := ⟨Xb, 2, none⟩) hXl).trans z2)
          | fail)
      all_goals (
        go_wp2
        go_ret
        exact ⟨_, _, _, rfl, hoT.low HAL.out.size, HAL.out.trans (hB.mono HAL.out.size)⟩)
theorem shrt_one {m d : Nat} {k n : Int} {s : ByteArray} {ps : List (T d)} (h : shrt m (d + 1) (mkT k n s ps) = true) : s.size ≤ m ∧ ∀ p ∈ ps, shrt m d p = true := by
  rw [shrt_mk] at h
  simp only [Bool.and_eq_true, decide_eq_true_eq, List.all_eq_true] at h
  exact h
set_option maxRecDepth 100000 in
set_option maxHeartbeats 1000000 in
theorem cd_nil (vv : Value) (hv : ∃ a n c, vv = .slice a n c) (w : World) : Calls Try.prog 14 #[.nilIface, vv] w fun e w' => ∃ a k c, e = .returned (.slice a k c) ∧ OwnI w' w.heap.size 43 (.slice a k c) [] ∧ Below w.heap.size w w' := by
  obtain ⟨va, vn, vc, rfl⟩ := hv
  go_enter Try.func14, Try.ntmps14
  go_wp2
  go_ret
  exact ⟨_, _, _, rfl, ownI_nil _ _ _, Below.refl _ _⟩
theorem codeOf_any : ∀ d, CdP d
  | 0 => fun _ t => Empty.elim t
  | d + 1 => by
    intro vs t vv w hcl hsh hcn hv hl
    have IH := codeOf_any d
    have hvv : ∃ a n c, vv = .slice a n c := by obtain ⟨a, c, rfl, _⟩ := hv.form; exact ⟨_, _, _, rfl⟩
    have hlen := cdC_len vs (d + 1) t hcl
    rcases hcl.cases with ⟨n, rfl⟩ | ⟨s, rfl⟩ | ⟨k, p, hk, rfl, hp⟩ | ⟨s, p, q, rfl, hp, hq⟩ | rfl
    · rw [cdC_lit]
      exact cd_lit n vv hvv w
    · rw [cdC_ref]
      exact cd_ref s hv hl
    · have h1 := (shrt_one hsh).2 p (by simp)
      rw [cnt_mk] at hcn hlen
      simp only [List.map_cons, List.map_nil, List.sum_cons, List.sum_nil] at hcn hlen
      have hc := fun w1 (b : Below w.heap.size w w1) => IH vs p vv w1 hp h1 (by omega) (hv.below b (Nat.le_refl _)) hl
      have hlp := cdC_len vs d p hp
      have := cd_one k hk (exV_ifc d p hp) hvv (by omega) hc
      rcases hk with rfl | rfl
      · rw [cdC_not]
        exact this
      · rw [cdC_neg]
        exact this
    · have h0 := (shrt_one hsh).1
      have h1 := (shrt_one hsh).2 p (by simp)
      have h2 := (shrt_one hsh).2 q (by simp)
      rw [cnt_mk] at hcn
      simp only [List.map_cons, List.map_nil, List.sum_cons, List.sum_nil] at hcn
      have hc := fun w1 (b : Below w.heap.size w w1) => IH vs p vv w1 hp h1 (by omega) (hv.below b (Nat.le_refl _)) hl
      have hd := fun w1 (b : Below w.heap.size w w1) => IH vs q vv w1 hq h2 (by omega) (hv.below b (Nat.le_refl _)) hl
      have hlp := cdC_len vs d p hp
      have hlq := cdC_len vs d q hq
      rw [cdC_bin]
      exact cd_bin s h0 (exV_ifc d p hp) (exV_ifc d q hq) hvv (by omega) hc hd
    · rw [cdC_none]
      exact cd_nil vv hvv w
/-- What Code tells: the instructions, and the error. -/
def cdE (vs : List Vr) (d : Nat) (t : T d) : List Ins × Int := if fmC d t = true then (if (rfT d t).all (fun s => decide (0 ≤ vix s vs 0)) = true then (cdC vs d t, 0) else ([], 5)) else ([], 1)
theorem rdS_at {w : World} {v : Value} {ls : List ByteArray} (h : RdS w v ls) : ∃ a cap, v = .slice a ls.length cap ∧ ls.length ≤ cap ∧ cap ≤ 9223372036854775807 ∧ ∀ (i : Nat) (hi : i < ls.length), ∃ g, a = some ⟨g, 0, none⟩ ∧ g < w.heap.size ∧ w.cell? ⟨g, i, none⟩ = some (.string ls[i]) := by
  rcases h.form with ⟨rfl, rfl⟩ | ⟨g, cap, rfl, h1, h2, hc⟩
  · exact ⟨_, _, rfl, by simp, by simp, fun i hi => by simp at hi⟩
  · exact ⟨_, _, rfl, h1, by unfold maxLen at h2; omega, fun i hi => ⟨g, rfl, World.block_lt_of_cell? w _ (hc i hi), hc i hi⟩⟩
set_option maxRecDepth 100000 in
set_option maxHeartbeats 8000000 in
theorem codeP_any {w : World} {d : Nat} {t : T d} {vs : List Vr} {vv : Value} (hcl : Cl d t) (hcn : cnt d t ≤ 1000) (hsh : shrt 1000 d t = true) (hv : RdV w vv vs) (hl : vs.length ≤ 10000) :
    Calls Try.prog 6 #[exV d t, vv] w fun e w' => ∃ a n c, e = .returned (.tuple #[.slice a n c, .int .i64 (cdE vs d t).2]) ∧ OwnI w' w.heap.size 43 (.slice a n c) (cdE vs d t).1 ∧ Below w.heap.size w w' := by
  have h1 := formedP d t w hcl (by omega) hsh
  have h2 := fun w1 => refs_anyP (d := d) (t := t) w1 hcl hcn hsh
  have h3 := fun w1 (b : Below w.heap.size w w1) s => numberOf_any (hv.below b (Nat.le_refl _)) hl s
  have h4 := fun w1 (b : Below w.heap.size w w1) => codeOf_any d vs t vv w1 hcl hsh (by omega) (hv.below b (Nat.le_refl _)) hl
  obtain ⟨va, vc, rfl, _⟩ := hv.form
  unfold cdE
  obtain ⟨C, hC⟩ : ∃ C, cdC vs d t = C := ⟨_, rfl⟩
  obtain ⟨R, hR⟩ : ∃ R, rfT d t = R := ⟨_, rfl⟩
  obtain ⟨vn, hvn⟩ : ∃ n, vs.length = n := ⟨_, rfl⟩
  simp only [hC, hR, hvn] at h2 h3 h4 ⊢
  rcases exV_ifc d t hcl with hx | ⟨u, x, hx⟩
  all_goals (
    rw [hx] at h1 h4 ⊢
    simp only [hx] at h2
    clear hx hC hR hvn hv hl hcl hcn hsh
    cases hf : fmC d t with
    | false =>
      rw [hf] at h1
      rw [if_neg (by decide)]
      clear h2 h3 h4 hf
      go_enter Try.func6, Try.ntmps6
      go_wp2_with (first
        | (go_at_call 11; refine h1.mono ?_; rintro e w1 ⟨rfl, b1⟩)
        | fail)
      go_ret2
      exact ⟨_, _, _, rfl, ownI_nil _ _ _, b1⟩
    | true =>
      rw [hf] at h1
      rw [if_pos rfl]
      clear hf
      obtain ⟨E, hE⟩ : ∃ E, (if R.all (fun s => decide (0 ≤ vix s vs 0)) = true then (C, (0 : Int)) else ([], 5)) = E := ⟨_, rfl⟩
      rw [hE]
      have HE := hidI hE
      clear hE
      go_enter Try.func6, Try.ntmps6
      go_upto_region 4 with (first
        | (go_at_call 11; refine h1.mono ?_; rintro e w1 ⟨rfl, b1⟩)
        | (go_at_call 12; refine (h2 _).mono ?_; rintro e w2 ⟨rv, rfl, hrv, b2⟩; obtain ⟨ra, rc, rfl, hrl, hrm, hcell⟩ := rdS_at hrv)
        | fail)
      have hb2 := b1.trans (b2.mono b1.size)
      have HC := hidI hcell
      obtain ⟨rn, hrn⟩ : ∃ n, R.length = n := ⟨_, rfl⟩
      rw [hrn] at hrl ⊢
      have HN := hidI hrn
      clear hcell h1 h2 hrv b1 b2 hrn
      go_loopw [14] (fun ix wr => ∃ (j : Nat), j ≤ rn ∧ ix = .int .i64 (j : Int) ∧ Hid ((R.take j).all (fun s => decide (0 ≤ vix s vs 0)) = true) ∧ Below w2.heap.size w2 wr) (fun ix _ => rn - (RowKit.intOf ix).toNat)
      case atStart => exact ⟨0, Nat.zero_le _, rfl, rfl, Below.refl _ _⟩
      case round =>
        obtain ⟨j, hj, rfl, HA, hb⟩ := hrel
        have hbw := hb2.trans (hb.mono hb2.size)
        by_cases hlt : j < rn
        · have hjl : j < R.length := by rw [HN.out]; exact hlt
          obtain ⟨g, rfl, hgl, c0⟩ := HC.out j hjl
          have C0 := (hb.cell (p := ⟨g, j, none⟩) hgl).trans c0
          have hmem : R[j] ∈ R := List.getElem_mem hjl
          have hAE : R.take (j + 1) = R.take j ++ [R[j]] := List.take_succ_eq_append_getElem hjl
          obtain ⟨x, hx⟩ : ∃ x, R[j] = x := ⟨_, rfl⟩
          rw [hx] at C0 hmem hAE
          have hcall := h3 _ hbw x
          obtain ⟨V, hV⟩ : ∃ V, vix x vs 0 = V := ⟨_, rfl⟩
          rw [hV] at hcall
          have i1 : (j : Int) < (rn : Int) := by omega
          have i2 : (0 : Int) ≤ (j : Int) := by omega
          clear c0 hx
          by_cases hneg : V < 0
          · have HQ : Hid (R.all (fun s => decide (0 ≤ vix s vs 0)) = false) := by
              show _ = _
              rw [List.all_eq_false]
              exact ⟨x, hmem, by rw [hV]; simp; omega⟩
            clear hmem hAE
            go_wp2_with (first
              | (go_at_call 13; refine hcall.mono ?_; rintro e w3 ⟨rfl, b3⟩)
              | fail)
            go_ret2
            have hE : E = ([], 5) := by rw [← HE.out, HQ.out]; rfl
            subst hE
            exact ⟨_, _, _, rfl, ownI_nil _ _ _, hbw.trans (b3.mono hbw.size)⟩
          · have HA2 : Hid ((R.take (j + 1)).all (fun s => decide (0 ≤ vix s vs 0)) = true) := by
              show _ = _
              rw [hAE, List.all_append, HA.out]
              simp [hV]
              omega
            have i3 : ¬ V < 0 := hneg
            clear hmem hAE HA
            go_wp2_with (first
              | (go_at_call 13; refine hcall.mono ?_; rintro e w3 ⟨rfl, b3⟩)
              | fail)
            go_roundw
            case rel => exact ⟨j + 1, hlt, by go_num, HA2, hb.trans (b3.mono hb.size)⟩
            case measure => simp [RowKit.intOf]; omega
        · have i1 : ¬ (j : Int) < (rn : Int) := by omega
          have HQ : Hid (R.all (fun s => decide (0 ≤ vix s vs 0)) = true) := by
            have := HA.out
            rw [List.take_of_length_le (by rw [HN.out]; omega)] at this
            exact this
          have hcall := h4 _ hbw
          clear HA h3 h4
          go_wp2_with (first
            | (go_at_call 14; refine hcall.mono ?_; rintro e w3 ⟨ta, tn, tc, rfl, hoT, b3⟩)
            | fail)
          go_ret2
          have hE : E = (C, 0) := by rw [← HE.out, if_pos HQ.out]
          subst hE
          exact ⟨_, _, _, rfl, hoT.low hbw.size, hbw.trans (b3.mono hbw.size)⟩)
end Go.Proofs.Ytpdkmbifibkepaa

/- What is asked of the program's calls; what awake then answers. -/
namespace Go.Proofs.Ytpdkmbifibkepaa
open Go.RowKit Go.Lib
set_option linter.unusedSimpArgs false
set_option linter.unusedVariables false

abbrev pr2 (x : Int × Int) : Value := .tuple #[.int .i64 x.1, .int .i64 x.2]
/-- The value of any expression. -/
def evX (vs : List Vr) (d : Nat) (t : T d) : Int × Int := if fmC d t = true then evC vs d t else (0, 1)
/-- The program's Eval answers as the document says. -/
def EvalP : Prop := ∀ (d : Nat) (t : T d) (vs : List Vr) (vv : Value) (w : World), Cl d t → cnt d t ≤ 2000 → shrt 1000 d t = true → RdV w vv vs → vs.length ≤ 10000 →
  Calls Try.prog 8 #[exV d t, vv] w fun e w' => e = .returned (pr2 (evX vs d t)) ∧ Below w.heap.size w w'


theorem nm_rf {d : Nat} {t : T d} {s : ByteArray} (h : s ∈ nmC d t) : s ∈ rfC d t [] := by
  rw [rf_nm]
  have h1 := (fold_up (nmC d t) [] (by simp [Up])).2 (bl s)
  have h2 := h1.2 (.inr (List.mem_map.2 ⟨s, h, rfl⟩))
  obtain ⟨x, hx, e⟩ := List.mem_map.1 h2
  rw [← bl_inj e]
  exact hx
end Go.Proofs.Ytpdkmbifibkepaa

/- What the document's small and Small do. -/
namespace Go.Proofs.Ytpdkmbifibkepaa
open Go.RowKit
set_option linter.unusedSimpArgs false
set_option linter.unusedVariables false

theorem thru_cons {α : Type} (g : α → Int → Int) (p : α) (r : List α) (x : Int) : thru g (p :: r) x = if g p x < 0 then -1 else thru g r (g p x) := rfl

/-- What small answers of trees so deep. -/
def SmallC (d : Nat) : Prop := ∀ (ok : Nat → Prop) (t : T d) (v : Value) (w : World) (dep : Nat) (left : Int), RdT ok w d t v → dep ≤ 61 → -1 ≤ left → left ≤ 200 →
    Calls Try.prog 10 #[v, .int .i64 (dep : Int), .int .i64 left] w fun e w' => e = .returned (.int .i64 (sml d t dep left)) ∧ Below w.heap.size w w'
set_option maxRecDepth 100000 in
set_option maxHeartbeats 1000000 in
theorem refSmall_step (d : Nat) (IH : SmallC d) : SmallC (d + 1) := by
  intro ok t v w dep left h hdep hl0 hl1
  obtain ⟨k, n, s, ps, rfl⟩ := T.open t
  obtain ⟨sl, rfl, hp⟩ := rdT_mk.1 h
  obtain ⟨a, cap, rfl, hlc, hcm, hcell⟩ := hp.form
  rw [sml_mk]
  by_cases c1 : 60 < dep
  · rw [if_pos (.inl c1)]
    have e1 : (dep : Int) > 60 := by omega
    clear IH hcell h hp
    go_enter Try.func10, Try.ntmps10
    go_wp2
    go_ret
    exact ⟨rfl, (Below.refl _ _).alloc (Nat.le_refl _) _⟩
  have e1 : ¬ (dep : Int) > 60 := by omega
  by_cases c2 : left - 1 < 0
  · rw [if_pos (.inr (.inl c2))]
    clear IH hcell h hp
    go_enter Try.func10, Try.ntmps10
    go_wp2
    go_ret
    exact ⟨rfl, (Below.refl _ _).alloc (Nat.le_refl _) _⟩
  by_cases c3 : 1000 < s.size
  · rw [if_pos (.inr (.inr c3))]
    have e3 : (s.size : Int) > 1000 := by omega
    clear IH hcell h hp
    go_enter Try.func10, Try.ntmps10
    go_wp2
    go_ret
    exact ⟨rfl, (Below.refl _ _).alloc (Nat.le_refl _) _⟩
  rw [if_neg (by omega)]
  have e3 : ¬ (s.size : Int) > 1000 := by omega
  obtain ⟨V, hV⟩ : ∃ V, thru (fun p x => sml d p (dep + 1) x) ps (left - 1) = V := ⟨_, rfl⟩
  rw [hV]
  have HV : Hid (thru (fun p x => sml d p (dep + 1) x) (ps.drop 0) (left - 1) = V) := hV
  have HC : Hid (∀ (i : Nat) (hi : i < ps.length), ∃ b off c0 c1 c2 c3, a = some ⟨b, off, none⟩ ∧ b < w.heap.size ∧ RdT ok w d ps[i] (.agg #[c0, c1, c2, c3]) ∧ w.cell? ⟨b, off + i * 4, none⟩ = some c0 ∧ w.cell? ⟨b, off + i * 4 + 1, none⟩ = some c1 ∧ w.cell? ⟨b, off + i * 4 + 2, none⟩ = some c2 ∧ w.cell? ⟨b, off + i * 4 + 3, none⟩ = some c3) := hcell
  clear hV hcell h hp
  go_enter Try.func10, Try.ntmps10
  go_wp2
  go_loopw [2, 25] (fun l i wr => ∃ (j : Nat) (L : Int), j ≤ ps.length ∧ i = .int .i64 (j : Int) ∧ l = .int .i64 L ∧ 0 ≤ L ∧ L ≤ 199 ∧ Hid (thru (fun p x => sml d p (dep + 1) x) (ps.drop j) L = V) ∧ At4 wr w.heap.size (.int .i64 k) (.int .i64 n) (.string s) (.slice a ps.length cap) ∧ Below w.heap.size w wr) (fun _ i _ => ps.length - (RowKit.intOf i).toNat)
  case atStart => exact ⟨0, left - 1, Nat.zero_le _, rfl, rfl, by omega, by omega, HV, At4.new _ _ _ _ _ _, (Below.refl _ _).alloc (Nat.le_refl _) _⟩
  case round =>
    obtain ⟨j, L, hj, rfl, rfl, hL0, hL1, hT, hA, hb⟩ := hrel
    obtain ⟨y0, y1, y2, y3⟩ := id hA
    by_cases hlt : j < ps.length
    · obtain ⟨b, off, c0, c1, c2, c3, rfl, hbl, hr, k0, k1, k2, k3⟩ := HC.out j hlt
      have C0 := (hb.cell (p := ⟨b, off + j * 4, none⟩) hbl).trans k0
      have C1 := (hb.cell (p := ⟨b, off + j * 4 + 1, none⟩) hbl).trans k1
      have C2 := (hb.cell (p := ⟨b, off + j * 4 + 2, none⟩) hbl).trans k2
      have C3 := (hb.cell (p := ⟨b, off + j * 4 + 3, none⟩) hbl).trans k3
      have hcall := IH ok ps[j] _ wr (dep + 1) L (RdT.below hb (Nat.le_refl _) hr) (by omega) (by omega) (by omega)
      have hTT := hT.out
      rw [List.drop_eq_getElem_cons hlt, thru_cons] at hTT
      have hok := sml_ok d ps[j] (dep + 1) L
      have hcp := cnt_pos d ps[j]
      obtain ⟨z, hz⟩ : ∃ z, sml d ps[j] (dep + 1) L = z := ⟨_, rfl⟩
      rw [hz] at hcall hTT hok
      have i1 : (j : Int) < (ps.length : Int) := by omega
      have i2 : (0 : Int) ≤ (j : Int) := by omega
      have hd1 : ((dep + 1 : Nat) : Int) = (dep : Int) + 1 := by omega
      rw [hd1] at hcall
      clear k0 k1 k2 k3 hr hbl
      by_cases hzn : z < 0
      · rw [if_pos hzn] at hTT
        subst hTT
        clear hok hz hd1
        go_wp2_with (first
          | (go_at_call 10; refine hcall.mono ?_; rintro e w1 ⟨rfl, b1⟩))
        go_ret
        exact ⟨rfl, hb.trans (b1.mono hb.size)⟩
      · rw [if_neg hzn] at hTT
        have hzL : z ≤ L := by have := (hok (by omega)).1; omega
        have hN : Hid (thru (fun p x => sml d p (dep + 1) x) (ps.drop (j + 1)) z = V) := hTT
        clear hok hz hTT hd1 hcp
        go_wp2_with (first
          | (go_at_call 10; refine hcall.mono ?_; rintro e w1 ⟨rfl, b1⟩))
        go_roundw
        case rel => exact ⟨j + 1, z, hlt, by go_num, rfl, by omega, by omega, hN, hA.keepB b1 (World.block_lt_of_cell? wr _ y0), hb.trans (b1.mono hb.size)⟩
        case measure => simp [RowKit.intOf]; omega
    · have i1 : ¬ (j : Int) < (ps.length : Int) := by omega
      have hTT := hT.out
      rw [List.drop_eq_nil_of_le (by omega)] at hTT
      have hTe : L = V := hTT
      subst hTe
      clear hTT
      go_wp2
      go_ret
      exact ⟨rfl, hb⟩

theorem refSmall_any : ∀ (d : Nat), SmallC d
  | 0 => fun _ t => Empty.elim t
  | d + 1 => refSmall_step d (refSmall_any d)

theorem refSmallTop_any {ok : Nat → Prop} {d : Nat} {t : T d} {v : Value} {w : World} (h : RdT ok w d t v) :
    Calls Try.prog 5 #[v] w fun e w' => e = .returned (.bool (decide (0 ≤ sml d t 0 200))) ∧ Below w.heap.size w w' := by
  match d, t, h with
  | 0, t, h => exact Empty.elim t
  | d + 1, t, h =>
    obtain ⟨k, n, s, ps, rfl⟩ := T.open t
    have h0 := h
    obtain ⟨sl, rfl, hp⟩ := rdT_mk.1 h
    have hb0 := (Below.refl w.heap.size w).alloc (Nat.le_refl _) (.cells #[.int .i64 k, .int .i64 n, .string s, sl] 24)
    have hcall := refSmall_any (d + 1) ok (mkT k n s ps) _ _ 0 200 (RdT.below hb0 (Nat.le_refl _) h0) (by omega) (by omega) (by omega)
    obtain ⟨z, hz⟩ : ∃ z, sml (d + 1) (mkT k n s ps) 0 200 = z := ⟨_, rfl⟩
    rw [hz] at hcall ⊢
    clear hz h0 hp
    go_enter Try.func5, Try.ntmps5
    go_wp2_with (first
      | (go_at_call 10; refine hcall.mono ?_; rintro e w1 ⟨rfl, b1⟩))
    all_goals go_ret
    all_goals exact ⟨by simp [*], hb0.trans (b1.mono hb0.size)⟩
end Go.Proofs.Ytpdkmbifibkepaa
