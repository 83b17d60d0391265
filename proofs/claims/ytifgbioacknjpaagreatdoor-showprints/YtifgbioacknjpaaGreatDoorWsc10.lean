import Derived.Test.YtifgbioacknjpaaGreatDoorWsc09
import Derived.Test.YtifgbioacknjpaaGreatDoorWsc06
import Derived.Test.YtifgbioacknjpaaGreatDoorWsc08
import Derived.Deep.DeepCutAuto
import Derived.Deep.RegionHeldLaw
import Derived.Test.YtifgbioacknjpaaGreatDoorWsc03
import Derived.BigRegion
import Derived.Test.YtifgbioacknjpaaGreatDoorWsc04
import Derived.Deep.RegionLaw
import Derived.Shelf.LaysC
import Derived.Shelf.Strconv.ParseIntPublic10
import Derived.Test.YtifgbioacknjpaaGreatDoorRows
import Derived.Test.YtifgbioacknjpaaGreatDoorWsc05

/- What the document's Take does. -/
namespace Go.Proofs.YtifgbioacknjpaaGreatDoor
open Go.RowKit Go.Lib
set_option linter.unusedSimpArgs false
set_option linter.unusedVariables false
attribute [local go_sem ↓] Go.wp_at_zero Go.wp_at_succ

theorem addr_plainR (g i : Nat) : (⟨g, 0, none⟩ : Addr).add i = ⟨g, i, none⟩ := by unfold Addr.add; split <;> simp_all
theorem celsW_atR (ws : List Wd) (i : Nat) (h : i < ws.length) : (celsW ws)[i * 4]? = some (.int .i64 ((ws[i]).1 : Int)) ∧ (celsW ws)[i * 4 + 1]? = some (.string (txt (ws[i]).2.1)) ∧ (celsW ws)[i * 4 + 2]? = some (.int .i64 (ws[i]).2.2.1) ∧ (celsW ws)[i * 4 + 3]? = some (.int .i64 (ws[i]).2.2.2) := by
  induction ws generalizing i with
  | nil => simp at h
  | cons x t ih =>
    cases i with
    | zero => exact ⟨rfl, rfl, rfl, rfl⟩
    | succ k =>
      have hk := ih k (by simpa using h)
      have e : ∀ j, (celsW (x :: t))[(k + 1) * 4 + j]? = (celsW t)[k * 4 + j]? := fun j => by
        show (celW x ++ celsW t)[(k + 1) * 4 + j]? = _
        rw [List.getElem?_append_right (by simp [celW]; omega)]
        congr 1
        simp [celW]; omega
      exact ⟨(e 0).trans hk.1, (e 1).trans hk.2.1, (e 2).trans hk.2.2.1, (e 3).trans hk.2.2.2⟩
theorem ownW_rdR {w : World} {base e : Nat} {v : Value} {ws : List Wd} (h : OwnW w base e v ws) : ∃ a cap, v = .slice a ws.length cap ∧ ws.length ≤ cap ∧ cap ≤ maxLen ∧ ∀ X, w.heap.size ≤ X → RdL w X a ws := by
  have hc := fun g => World.ownsRow.cells h (g := g)
  rcases h.2 with ⟨h1, h2⟩ | ⟨g, cap, cur, rfl, hb, hg, h3, h4, _⟩
  · exact ⟨none, 0, by rw [h1, h2], by omega, by simp [maxLen], fun X _ i hi => by omega⟩
  · refine ⟨_, _, rfl, h3, h4, fun X hX i hi => ⟨g, 0, rfl, by have := (Array.getElem?_eq_some_iff.1 hg).1; omega, ?_⟩⟩
    obtain ⟨e0, e1, e2, e3⟩ := celsW_atR ws i hi
    have c0 := hc g rfl _ _ e0
    have c1 := hc g rfl _ _ e1
    have c2 := hc g rfl _ _ e2
    have c3 := hc g rfl _ _ e3
    rw [addr_plainR] at c0 c1 c2 c3
    rw [Nat.zero_add]
    exact ⟨c0, c1, c2, c3⟩

def drV (a : Option Addr) (cap : Nat) (fin : Pl) (r : RsC) : List Value := [.slice a r.1.length cap, .int .i64 fin.1, .int .i64 fin.2, .int .i64 r.2.1.1, .int .i64 r.2.1.2, .int .i64 r.2.2]
/-- The document's reader in block X. -/
structure Dr (w : World) (X : Nat) (fin : Pl) (r : RsC) (a : Option Addr) (cap : Nat) : Prop where
  b : Bn w X (drV a cap fin r)
  l : RdL w X a r.1
  c : r.1.length ≤ cap
  m : cap ≤ maxLen
  n : r.1.length ≤ 3000
  o : ∀ x ∈ r.1, OneW x.1 x.2.1
theorem Dr.lt {w : World} {X : Nat} {fin : Pl} {r : RsC} {a : Option Addr} {cap : Nat} (h : Dr w X fin r a cap) : X < w.heap.size := World.block_lt_of_cell? w _ (h.b 0 _ rfl).1
theorem RdL.keepB {w w' : World} {X B : Nat} {a : Option Addr} {ws : List Wd} (h : RdL w X a ws) (hb : Below B w w') (hX : X ≤ B) : RdL w' X a ws := fun i hi => by
  obtain ⟨g, off, h1, h2, d0, d1, d2, d3⟩ := h i hi
  have hg : g < B := Nat.lt_of_lt_of_le h2 hX
  exact ⟨g, off, h1, h2, (hb.cell (p := ⟨g, off + i * 4, none⟩) hg).trans d0, (hb.cell (p := ⟨g, off + i * 4 + 1, none⟩) hg).trans d1, (hb.cell (p := ⟨g, off + i * 4 + 2, none⟩) hg).trans d2, (hb.cell (p := ⟨g, off + i * 4 + 3, none⟩) hg).trans d3⟩
theorem Dr.belowB {w w' : World} {X B : Nat} {fin : Pl} {r : RsC} {a : Option Addr} {cap : Nat} (h : Dr w X fin r a cap) (hb : Below B w w') (hX : X < B) : Dr w' X fin r a cap :=
  ⟨h.b.blk (hb.block X hX), h.l.keepB hb (by omega), h.c, h.m, h.n, h.o⟩
theorem Dr.on {w w' : World} {X : Nat} {fin : Pl} {r : RsC} {a : Option Addr} {cap : Nat} (h : Dr w X fin r a cap) (hb : Below w.heap.size w w') : Dr w' X fin r a cap := h.belowB hb h.lt
theorem RdL.far {w : World} {X Y i : Nat} {a : Option Addr} {ws : List Wd} (h : RdL w X a ws) (hY : X ≤ Y) (u : Value) : RdL (w.setCell ⟨Y, i, none⟩ u) X a ws := fun j hj => by
  obtain ⟨g, off, h1, h3, d0, d1, d2, d3⟩ := h j hj
  exact ⟨g, off, h1, h3, cell_far4 (by omega) d0, cell_far4 (by omega) d1, cell_far4 (by omega) d2, cell_far4 (by omega) d3⟩
theorem Dr.far {w : World} {X Y i : Nat} {fin : Pl} {r : RsC} {a : Option Addr} {cap : Nat} (h : Dr w X fin r a cap) (hY : X < Y) (u : Value) : Dr (w.setCell ⟨Y, i, none⟩ u) X fin r a cap :=
  ⟨h.b.far (by omega) u, h.l.far (by omega) u, h.c, h.m, h.n, h.o⟩
/-- The reader, wherever its words lie. -/
def DR (w : World) (X : Nat) (fin : Pl) (r : RsC) : Prop := ∃ a cap, Dr w X fin r a cap
theorem DR.lt {w : World} {X : Nat} {fin : Pl} {r : RsC} (h : DR w X fin r) : X < w.heap.size := by obtain ⟨a, cap, h⟩ := h; exact h.lt
theorem DR.on {w w' : World} {X : Nat} {fin : Pl} {r : RsC} (h : DR w X fin r) (hb : Below w.heap.size w w') : DR w' X fin r := by obtain ⟨a, cap, h⟩ := h; exact ⟨a, cap, h.on hb⟩
theorem DR.belowB {w w' : World} {X B : Nat} {fin : Pl} {r : RsC} (h : DR w X fin r) (hb : Below B w w') (hX : X < B) : DR w' X fin r := by obtain ⟨a, cap, h⟩ := h; exact ⟨a, cap, h.belowB hb hX⟩
theorem DR.far {w : World} {X Y i : Nat} {fin : Pl} {r : RsC} (h : DR w X fin r) (hY : X < Y) (u : Value) : DR (w.setCell ⟨Y, i, none⟩ u) X fin r := by obtain ⟨a, cap, h⟩ := h; exact ⟨a, cap, h.far hY u⟩


/-- The decoder's tables lie ahead of X, and stay. -/
def Ty (w : World) (X : Nat) : Prop := ∃ w0, Tabs w0 ∧ w0.heap.size ≤ X ∧ Below w0.heap.size w0 w
theorem Ty.fx {w w' : World} {X : Nat} (h : Ty w X) (hf : Fx X w w') : Ty w' X := by
  obtain ⟨w0, h1, h2, h3⟩ := h
  exact ⟨w0, h1, h2, ⟨hf.os.trans h3.os, hf.tape.trans h3.tape, hf.output.trans h3.output, Nat.le_trans h3.size hf.size, fun k hk => (hf.block k (Nat.lt_of_lt_of_le hk h3.size) (fun e => by have : k = X := Option.some.inj e; omega)).trans (h3.block k hk)⟩⟩
theorem Ty.on {w w' : World} {X : Nat} (h : Ty w X) (hb : Below w.heap.size w w') : Ty w' X := h.fx (Fx.of hb (Nat.le_refl _))
theorem Ty.far {w : World} {X Y i : Nat} (h : Ty w X) (hY : X ≤ Y) (u : Value) : Ty (w.setCell ⟨Y, i, none⟩ u) X := by
  obtain ⟨w0, h1, h2, h3⟩ := h
  exact ⟨w0, h1, h2, h3.setCell (by show w0.heap.size ≤ Y; omega) u⟩
theorem Ty.bel {w w' : World} {X B : Nat} (h : Ty w X) (hb : Below B w w') (hX : X < B) : Ty w' X := by
  obtain ⟨w0, h1, h2, h3⟩ := h
  exact ⟨w0, h1, h2, h3.trans (hb.mono (by omega))⟩
set_option maxRecDepth 100000 in
set_option maxHeartbeats 4000000 in
theorem plain_any {w : World} (hT : Tabs w) (s : ByteArray) (hs : s.size ≤ 140737488351232) : Calls Tryz.prog 46 #[.string s] w fun e w' => e = .returned (.bool (plainB (bl s))) ∧ Below w.heap.size w w' := by
  have hN := refName_any s w hT hs
  have hR := fun w1 => rReserved_any s w1
  unfold plainB
  cases hn : nameS (bl s) with
  | true =>
    rw [hn] at hN
    cases hr : rsvB (bl s) with
    | true =>
      simp only [hr] at hR
      go_enter Tryz.func46, Tryz.ntmps46
      go_wp2_with (first
        | (go_at_call 79; refine hN.mono ?_; rintro e w1 ⟨rfl, b1⟩)
        | (go_at_call 80; refine (hR _).mono ?_; rintro e w2 ⟨rfl, rfl⟩))
      go_ret
      exact ⟨rfl, b1⟩
    | false =>
      simp only [hr] at hR
      go_enter Tryz.func46, Tryz.ntmps46
      go_wp2_with (first
        | (go_at_call 79; refine hN.mono ?_; rintro e w1 ⟨rfl, b1⟩)
        | (go_at_call 80; refine (hR _).mono ?_; rintro e w2 ⟨rfl, rfl⟩))
      go_ret
      exact ⟨rfl, b1⟩
  | false =>
    rw [hn] at hN
    go_enter Tryz.func46, Tryz.ntmps46
    go_wp2_with (first
      | (go_at_call 79; refine hN.mono ?_; rintro e w1 ⟨rfl, b1⟩))
    go_ret
    exact ⟨rfl, b1⟩
/-- The next word's cells. -/
theorem Dr.word {w : World} {X : Nat} {fin : Pl} {r : RsC} {a : Option Addr} {cap : Nat} (h : Dr w X fin r a cap) {x : Wd} {l : List Wd} (hr : r.1 = x :: l) : ∃ g off, a = some ⟨g, off, none⟩ ∧ g < X ∧ w.cell? ⟨g, off, none⟩ = some (.int .i64 (x.1 : Int)) ∧ w.cell? ⟨g, off + 1, none⟩ = some (.string (txt x.2.1)) ∧ w.cell? ⟨g, off + 2, none⟩ = some (.int .i64 x.2.2.1) ∧ w.cell? ⟨g, off + 3, none⟩ = some (.int .i64 x.2.2.2) ∧ OneW x.1 x.2.1 := by
  have hL := h.l
  have ho := h.o x (by rw [hr]; exact List.mem_cons_self ..)
  rw [hr] at hL
  obtain ⟨g, off, h1, h2, d0, d1, d2, d3⟩ := hL 0 (by simp)
  rw [Nat.zero_mul] at d0 d1 d2 d3
  simp only [Nat.add_zero, List.getElem_cons_zero] at d0 d1 d2 d3
  exact ⟨g, off, h1, h2, d0, d1, d2, d3, ho⟩




/-- How many signs wait, as memory tells. -/
def wlen (X : Nat) (w : World) : Nat := match w.cell? ⟨X, 1, none⟩ with | some (.slice _ n _) => n | _ => 0
theorem Rdr.wlen {w : World} {X : Nat} {y : Yd} {vv ww : Value} (h : Rdr w X y vv ww) : wlen X w = y.W.length := by
  obtain ⟨a, cap, rfl, _⟩ := own_form h.w
  unfold Go.Proofs.YtifgbioacknjpaaGreatDoor.wlen
  rw [h.b.c1]


/-- From byte k on, j runes more belong to a piece that ends at byte p. -/
structure Inn (l : List UInt8) (k j p : Nat) : Prop where
  cnt : j ≤ (runes (l.drop k)).length
  size : k + (byt ((runes (l.drop k)).take j)).length = p
  no10 : ∀ v ∈ (runes (l.drop k)).take j, v.1 ≠ 10
theorem Inn.zero (l : List UInt8) (k : Nat) : Inn l k 0 k := ⟨Nat.zero_le _, rfl, fun v hv => by simp at hv⟩
theorem Inn.le {l : List UInt8} {k j p : Nat} (h : Inn l k j p) (hk : k ≤ l.length) : p ≤ l.length := by
  have h1 := byt_split (runes (l.drop k)) j
  rw [byt_runes _ _ (Nat.le_refl _), List.length_drop] at h1
  have := h.size
  omega
theorem Inn.start {l : List UInt8} {k m : Nat} (hk : k < l.length) (hm : 1 ≤ m) (hm2 : m ≤ (runes (l.drop k)).length) (hn : ∀ v ∈ (runes (l.drop k)).take m, v.1 ≠ 10 ∨ m = 1) :
    Inn l (k + (nx (l.drop k)).2) (m - 1) (k + (byt ((runes (l.drop k)).take m)).length) := by
  have hne := drop_ne hk
  have hc := runes_cons hne
  have hle := nx_le hne
  obtain ⟨j, rfl⟩ : ∃ j, m = j + 1 := ⟨m - 1, by omega⟩
  rw [List.drop_drop] at hc
  rw [hc] at hm2 hn ⊢
  rw [List.take_succ_cons] at hn ⊢
  simp only [Nat.add_sub_cancel]
  refine ⟨by simpa using hm2, ?_, fun v hv => ?_⟩
  · rw [byt_cons, List.length_append, List.length_take, Nat.min_eq_left hle]
    omega
  · rcases hn v (by simp [hv]) with h | h
    · exact h
    · have : j = 0 := by omega
      subst this
      simp at hv
theorem Inn.step {l : List UInt8} {k j p : Nat} (hk : k < l.length) (h : Inn l k (j + 1) p) : Inn l (k + (nx (l.drop k)).2) j p ∧ (nx (l.drop k)).1 ≠ 10 ∧ k < p := by
  have hne := drop_ne hk
  have hc := runes_cons hne
  have hle := nx_le hne
  have hps := nx_pos hne
  rw [List.drop_drop] at hc
  obtain ⟨h1, h2, h3⟩ := h
  rw [hc] at h1 h2 h3
  rw [List.take_succ_cons] at h2 h3
  rw [byt_cons, List.length_append, List.length_take, Nat.min_eq_left hle] at h2
  exact ⟨⟨by simpa using h1, by omega, fun v hv => h3 v (List.mem_cons_of_mem _ hv)⟩, h3 _ List.mem_cons_self, by omega⟩
theorem runes_tail {l : List UInt8} {k : Nat} (hk : k < l.length) (j : Nat) : (runes (l.drop k)).drop (j + 1) = (runes (l.drop (k + (nx (l.drop k)).2))).drop j := by
  rw [runes_cons (drop_ne hk), List.drop_succ_cons, List.drop_drop]
theorem pc_le {l : List UInt8} (hl : l ≠ []) (h : rightS (pc l).1 (l.take (pcB l)) = true) : 1 ≤ (pc l).2 ∧ (pc l).2 ≤ (runes l).length ∧ ∀ v ∈ (runes l).take (pc l).2, v.1 ≠ 10 ∨ (pc l).2 = 1 := by
  have hc := runes_cons hl
  by_cases c1 : (nx l).1 = 32 ∨ (nx l).1 = 9 ∨ (nx l).1 = 10
  · have hp : pc l = (0, 1) := by unfold pc; rw [if_pos c1]
    rw [hp]
    exact ⟨Nat.le_refl _, by rw [hc]; simp, fun _ _ => .inr rfl⟩
  by_cases c2 : (nx l).1 = 35
  · have hp : pc l = (0, rest (runes l)) := by unfold pc; rw [if_neg c1, if_pos c2]
    rw [hp]
    refine ⟨?_, rest_le _, fun v hv => .inl (rest_no10 _ v hv)⟩
    rw [hc]
    exact rest_pos (by simp only; omega)
  obtain ⟨k1, k2, _⟩ := right_word hl (by omega) (by omega) c2
  have e := k2 h
  have h0 : (fst1 (runes l)).1 ≠ 0 := by rw [e]; omega
  have hle : 1 ≤ (fst1 (runes l)).2 ∧ (fst1 (runes l)).2 ≤ (runes l).length := by rw [hc] at h0 ⊢; exact fst1_le _ _ h0
  rw [e] at hle
  refine ⟨hle.1, hle.2, ?_⟩
  have hp : pc l = if letter (nx l).1 = true then (1, spn (runes l)) else if dgt (nx l).1 = true then (2, spn (runes l)) else (3, sgn (runes l)) := by
    unfold pc
    rw [if_neg c1, if_neg c2]
  rw [hp]
  split
  · exact fun v hv => .inl (spn_no10 v hv)
  · split
    · exact fun v hv => .inl (spn_no10 v hv)
    · exact fun v hv => .inl (sgn_no10 _ v hv)
theorem txt_at (s : ByteArray) (k m : Nat) : s.extract k (k + (byt ((runes ((bl s).drop k)).take m)).length) = txt ((runes ((bl s).drop k)).take m) := by
  have h1 : bl (s.extract k (k + (byt ((runes ((bl s).drop k)).take m)).length)) = ((bl s).drop k).take (byt ((runes ((bl s).drop k)).take m)).length := by
    show (s.extract k _).data.toList = _
    rw [Lib.extract_data]
    congr 1
    omega
  have e2 : byt ((runes ((bl s).drop k)).take m) ++ byt ((runes ((bl s).drop k)).drop m) = (bl s).drop k := by rw [← byt_append, List.take_append_drop, byt_runes _ _ (Nat.le_refl _)]
  have e3 : ∀ (a b l : List UInt8), a ++ b = l → l.take a.length = a := fun a b l h => by rw [← h]; exact List.take_left
  rw [e3 _ _ _ e2] at h1
  have h2 : ∀ (t : ByteArray) (x : List UInt8), bl t = x → t = ⟨x.toArray⟩ := fun t x h => by
    apply ByteArray.ext
    show t.data = x.toArray
    rw [← h]
  exact h2 _ _ h1
theorem txt_bl (l : List UInt8) (m : Nat) : bl (txt ((runes l).take m)) = l.take (byt ((runes l).take m)).length := by
  have e2 : byt ((runes l).take m) ++ byt ((runes l).drop m) = l := by rw [← byt_append, List.take_append_drop, byt_runes _ l (Nat.le_refl _)]
  have e3 : ∀ (a b l : List UInt8), a ++ b = l → l.take a.length = a := fun a b l h => by rw [← h]; exact List.take_left
  rw [e3 _ _ _ e2]
  simp [bl, txt]

theorem src_word {P : Program} {t e : TypeId} (ht : P.underlying t = some (.slice e)) (w : World) (x : Wd) :
    Src P 4 t (.slice (some ⟨w.heap.size, 0, none⟩) 1 1) 1 (celW x) (w.alloc (.cells #[.int .i64 (x.1 : Int), .string (txt x.2.1), .int .i64 x.2.2.1, .int .i64 x.2.2.2] e)) := by
  have h := World.ownsRow_lit (base := w.heap.size) (e := e) (size := 4) w #[.int .i64 (x.1 : Int), .string (txt x.2.1), .int .i64 x.2.2.1, .int .i64 x.2.2.2] 1 (Nat.le_refl _) (by simp [maxLen]) (by simp)
  exact Src.ofSlice _ ht _ 1 1 _ (by simp [celW]) (by simpa [celW] using h.cells (g := w.heap.size) rfl) (by simp [celW, Value.oneCell'])
theorem Tryz.infoG : (Tryz.prog.info? 101).map (fun i => (i.zero, i.size, i.bytes)) = some (some (.agg #[.int .i64 0, .string ⟨#[]⟩, .int .i64 0, .int .i64 0]), 4, 40) := by kernel_rfl

set_option maxRecDepth 100000 in
set_option maxHeartbeats 4000000 in
theorem pWords_any (s : ByteArray) (w : World) (hs : s.size ≤ 140737488351232) :
    Calls Tryz.prog 36 #[.string s] w fun e w' => ∃ u, e = .returned (.tuple #[u, .agg #[.int .i64 (wordsS (bl s)).2.1.1, .int .i64 (wordsS (bl s)).2.1.2], .int .i64 (wordsS (bl s)).2.2]) ∧ OwnW w' w.heap.size 101 u (wordsS (bl s)).1 ∧ Below w.heap.size w w' := by
  obtain ⟨i0, hi, hz0, hz1, hz2⟩ := info_parts Tryz.infoG
  by_cases hlong : 12000 < s.size
  · rw [words_long (show 12000 < (bl s).length from hlong)]
    have e1 : (s.size : Int) > 12000 := by omega
    go_enter Tryz.func36, Tryz.ntmps36
    go_wp2
    go_region
    all_goals go_wp2
    all_goals exact bodyPost_ret (v := .tuple #[.slice none 0 0, .agg #[.int .i64 1, .int .i64 1], .int .i64 4]) (by simp [results, Tryz.results36, go_sem]) rfl ⟨_, rfl, ownW_nil _ _ _, (((Below.refl _ _).alloc (Nat.le_refl _) _).alloc (by simp) _).drew⟩
  have e1 : ¬ (s.size : Int) > 12000 := by omega
  have hsm : s.size ≤ 12000 := by omega
  obtain ⟨⟨X, ⟨pL, pC⟩, er⟩, hE⟩ : ∃ x, wordsS (bl s) = x := ⟨_, rfl⟩
  rw [hE]
  have HE : Hid (comb [] (wrds ((runes ((bl s).drop 0)).drop 0) 1 (1 + ((0 : Nat) : Int)) 0) = (X, (pL, pC), er)) := by
    show comb [] (wrds (runes (bl s)) 1 1 0) = (X, (pL, pC), er)
    rw [comb_nil, ← hE]
    unfold wordsS
    rw [if_neg (show ¬ 12000 < (bl s).length from hlong)]
  clear hE
  go_enter Tryz.func36, Tryz.ntmps36
  go_wp2
  go_loopw [6, 7] (fun o x wr => ∃ (k j p : Nat) (ln co : Int) (acc : List Wd), x = .int .i64 (p : Int) ∧ It0 wr (w.heap.size + 2) s k ∧ k ≤ s.size ∧ Hid (Inn (bl s) k j p) ∧ Hid (comb acc (wrds ((runes ((bl s).drop k)).drop j) ln (co + (j : Int)) acc.length) = (X, (pL, pC), er)) ∧ 1 ≤ ln ∧ 1 ≤ co ∧ ln ≤ 1 + k ∧ co ≤ 1 + k ∧ acc.length ≤ 3000 ∧
    OwnW wr (w.heap.size + 3) 101 o acc ∧ At wr (w.heap.size + 1) (.int .i64 ln) (.int .i64 co) ∧ (∃ a b, At wr w.heap.size a b) ∧ Below w.heap.size w wr) (fun _ _ wr => s.size - wr.iterPos (w.heap.size + 2))
  case atStart =>
    refine ⟨0, 0, 0, 1, 1, [], rfl, ?_, by omega, Inn.zero _ _, HE, by omega, by omega, by omega, by omega, by simp, ownW_nil _ _ _, (At.new _ _ _ _ _ (by simp)).keep ((Below.refl _ _).alloc (Nat.le_refl _) _), ⟨_, _, ((At.new w (.int .i64 0) (.int .i64 0) 23 _ rfl).keep ((Below.refl _ _).alloc (Nat.le_refl _) _)).keep ((Below.refl _ _).alloc (Nat.le_refl _) _)⟩, (((Below.refl _ _).alloc (Nat.le_refl _) _).alloc (by simp) _).alloc (by simp; omega) _⟩
    have := World.iter_heap ((w.alloc (.cells #[.int .i64 0, .int .i64 0] 23)).alloc (.cells #[.int .i64 1, .int .i64 1] 23)) s 0
    simpa [It0] using this
  case round =>
    obtain ⟨k, j, p, ln, co, acc, rfl, hit, hk, hin, hv, hl1, hc1, hl2, hc2, hacc, ho, hA, ⟨a, b, hR⟩, hb⟩ := hrel
    by_cases hlt : k < s.size
    · have hkl : k < (bl s).length := by rw [bl_length]; exact hlt
      have hnx : ∀ ty, (Instr.next (.pointer (some ⟨w.heap.size + 2, 0, none⟩)) true ty).run Tryz.prog wr = _ := fun ty => Lib.run_next_any_at wr (w.heap.size + 2) s k ty hit hlt
      obtain ⟨d1, d2⟩ := dec_nx hlt
      have hne := drop_ne hkl
      have hps := nx_pos hne
      have hnl := nx_le hne
      rw [List.length_drop, bl_length] at hnl
      have hrt := runes_tail hkl
      rw [d1, d2] at hnx
      have bi := Lib.below_iterAt (Below.refl (w.heap.size + 2) wr) (k := w.heap.size + 2) (Nat.le_refl _) s (k + (nx ((bl s).drop k)).2)
      have hit2 : It0 (wr.iterAt (w.heap.size + 2) s (k + (nx ((bl s).drop k)).2)) (w.heap.size + 2) s (k + (nx ((bl s).drop k)).2) := Lib.iterAt_heap wr (w.heap.size + 2) s k (k + (nx ((bl s).drop k)).2) hit
      have hA2 := hA.keepB bi (by omega)
      have hR2 := hR.keepB bi (by omega)
      have hb2 := hb.trans (bi.mono (by omega))
      have ho2 : OwnW (wr.iterAt (w.heap.size + 2) s (k + (nx ((bl s).drop k)).2)) (w.heap.size + 3) 101 u6 acc := ownsRow_iterAt ho (by omega) _ _
      obtain ⟨wq, hwq⟩ : ∃ wq, wr.iterAt (w.heap.size + 2) s (k + (nx ((bl s).drop k)).2) = wq := ⟨_, rfl⟩
      rw [hwq] at hnx hit2 hA2 hR2 hb2 ho2
      have hq3 : w.heap.size + 3 ≤ wq.heap.size := by have := hit2.lt; omega
      obtain ⟨y0, y1, y2, y3⟩ := id hA2
      clear d1 d2 hwq bi hA hR hb ho
      by_cases hj : 0 < j
      · -- within a piece
        obtain ⟨j', rfl⟩ : ∃ j', j = j' + 1 := ⟨j - 1, by omega⟩
        obtain ⟨hi1, hi2, hi3⟩ := Inn.step hkl hin.out
        have hx : rn (nx ((bl s).drop k)).1 ≠ 10 := fun e => hi2 ((rn_small (by omega)).1 e)
        have h26 := pBehind_on ln co (rn (nx ((bl s).drop k)).1) wq (by omega) hx
        have hn : Hid (comb acc (wrds ((runes ((bl s).drop (k + (nx ((bl s).drop k)).2))).drop j') ln (co + 1 + (j' : Int)) acc.length) = (X, (pL, pC), er)) := by
          have := hv.out
          rw [hrt, show co + ((j' + 1 : Nat) : Int) = co + 1 + (j' : Int) by omega] at this
          exact this
        have hI : Hid (Inn (bl s) (k + (nx ((bl s).drop k)).2) j' p) := hi1
        have hkp : ((k : Int) == (p : Int)) = false := beq_eq_false_iff_ne.2 (by omega)
        obtain ⟨x, hxx⟩ : ∃ x, rn (nx ((bl s).drop k)).1 = x := ⟨_, rfl⟩
        obtain ⟨q, hq⟩ : ∃ q, (nx ((bl s).drop k)).2 = q := ⟨_, rfl⟩
        rw [hxx] at h26 hnx
        rw [hq] at hit2 hn hI hps hnl
        clear hrt hi1 hi2 hi3 hx hxx hq hne hkl hj
        go_wp2_with (first
          | (go_at_call 66; refine h26.mono ?_; rintro e w1 ⟨rfl, b1⟩; have hA1 := hA2.keep b1; have hR1 := hR2.keep b1; have hI1 := hit2.keep b1; have ho1 := ho2.below b1 (Nat.le_refl _); obtain ⟨z0, z1, z2, z3⟩ := id hA1; have b2 := hb2.trans (b1.mono hb2.size); clear h26 hA2 hR2 hb2 ho2 y0 y1 y2 y3))
        have hI2 := (hI1.set (X := w.heap.size + 1) (i := 0) (by omega) (.int .i64 ln)).set (X := w.heap.size + 1) (i := 1) (by omega) (.int .i64 (co + 1))
        go_roundw
        case rel =>
          exact ⟨k + q, j', p, ln, co + 1, acc, rfl, hI2, by omega, hI, hn, by omega, by omega, by omega, by omega, hacc, (ho1.set (by simp) _).set (by simp) _, (hA1.set0 _).set1 _, ⟨a, b, (hR1.far (by omega) _).far (by omega) _⟩, (b2.setCell (by simp) _).setCell (by simp) _⟩
        case measure => rw [iterPos_of hI2, iterPos_of hit]; omega
      · -- a piece begins
        obtain rfl : j = 0 := by omega
        have hpk : k = p := hin.out.size
        subst hpk
        have hkp : ((k : Int) == (k : Int)) = true := by simp
        have hvv := hv.out
        rw [List.drop_zero, show co + ((0 : Nat) : Int) = co by omega] at hvv
        have hP := fun w1 => pPiece_any (s.extract k s.size) w1 (by rw [ByteArray.size_extract]; omega) (by rw [ByteArray.size_extract]; omega)
        rw [bl_from] at hP
        have hRt := fun w1 => pRight_any (pc ((bl s).drop k)).1 (txt ((runes ((bl s).drop k)).take (pc ((bl s).drop k)).2)) w1 (by
          have h1 := txt_bl ((bl s).drop k) (pc ((bl s).drop k)).2
          have h2 := congrArg List.length h1
          rw [bl_length, List.length_take, List.length_drop, bl_length] at h2
          omega)
        rw [txt_bl] at hRt
        have htx := txt_at s k (pc ((bl s).drop k)).2
        have hpn := byt_split (runes ((bl s).drop k)) (pc ((bl s).drop k)).2
        rw [byt_runes _ _ (Nat.le_refl _), List.length_drop, bl_length] at hpn
        have hpl := pc_le hne
        have hst := fun h1 h2 h3 => Inn.start (m := (pc ((bl s).drop k)).2) hkl h1 h2 h3
        have hrw := right_word hne
        unfold pcB at hP hpl hrw
        obtain ⟨R, hRR⟩ : ∃ R, runes ((bl s).drop k) = R := ⟨_, rfl⟩
        have hcs := runes_cons hne
        rw [hRR] at hcs
        have hw := wrds_cons ((nx ((bl s).drop k)).1, ((bl s).drop k).take (nx ((bl s).drop k)).2) (runes (((bl s).drop k).drop (nx ((bl s).drop k)).2)) ln co acc.length
        rw [← hcs] at hw
        simp only at hw
        simp only [hRR] at hP hRt htx hpn hpl hst hrw hvv hrt
        have hpc10 : (nx ((bl s).drop k)).1 = 10 ∨ (nx ((bl s).drop k)).1 = 32 ∨ (nx ((bl s).drop k)).1 = 9 → pc ((bl s).drop k) = (0, 1) := fun h => by unfold pc; rw [if_pos (by omega)]
        have hpc35 : (nx ((bl s).drop k)).1 = 35 → pc ((bl s).drop k) = (0, rest R) := fun h => by unfold pc; rw [if_neg (by omega), if_pos h, hRR]
        obtain ⟨K, hK⟩ : ∃ K, (pc ((bl s).drop k)).1 = K := ⟨_, rfl⟩
        obtain ⟨m, hm⟩ : ∃ m, (pc ((bl s).drop k)).2 = m := ⟨_, rfl⟩
        obtain ⟨g, hg⟩ : ∃ g, rightS K (((bl s).drop k).take (byt (R.take m)).length) = g := ⟨_, rfl⟩
        simp only [hK, hm] at hP hRt htx hpn hpl hst hrw
        rw [hg] at hpl hrw
        simp only [hg] at hRt
        obtain ⟨n, hnn⟩ : ∃ n, (byt (R.take m)).length = n := ⟨_, rfl⟩
        simp only [hnn] at hP htx hpn hst
        have hKg : K = 0 → g = true := fun h => by rw [← hg, h]; rfl
        clear hg
        have hkn : (k : Int) ≤ (k : Int) + (n : Int) := by omega
        have hkn2 : (k : Int) + (n : Int) ≤ (s.size : Int) := by omega
        have hk0 : (0 : Int) ≤ (k : Int) := by omega
        have hks : (k : Int) ≤ (s.size : Int) := by omega
        have hknn : (0 : Int) ≤ (k : Int) + (n : Int) := by omega
        have hK0 : (nx ((bl s).drop k)).1 = 10 ∨ (nx ((bl s).drop k)).1 = 32 ∨ (nx ((bl s).drop k)).1 = 9 → K = 0 ∧ m = 1 := fun h => by rw [← hK, ← hm, hpc10 h]; exact ⟨rfl, rfl⟩
        have hK5 : (nx ((bl s).drop k)).1 = 35 → K = 0 ∧ m = rest R := fun h => by rw [← hK, ← hm, hpc35 h]; exact ⟨rfl, rfl⟩
        clear hpc10 hpc35 hv
        cases g with
        | false =>
          -- it is wrong
          have c10 : ¬ (nx ((bl s).drop k)).1 = 10 := fun h => by have := hKg (hK0 (.inl h)).1; cases this
          have c32 : ¬ ((nx ((bl s).drop k)).1 = 32 ∨ (nx ((bl s).drop k)).1 = 9) := fun h => by have := hKg (hK0 (.inr h)).1; cases this
          have c35 : ¬ (nx ((bl s).drop k)).1 = 35 := fun h => by have := hKg (hK5 h).1; cases this
          have hf0 := (hrw c10 c32 c35).2.2 rfl
          rw [hw, if_neg c10, if_neg c32, if_neg c35, if_pos hf0, comb_err _ _ _ (by decide)] at hvv
          simp only [Prod.mk.injEq] at hvv
          obtain ⟨rfl, ⟨rfl, rfl⟩, rfl⟩ := hvv
          obtain ⟨x, hxx⟩ : ∃ x, rn (nx ((bl s).drop k)).1 = x := ⟨_, rfl⟩
          rw [hxx] at hnx hP
          clear c10 c32 c35 hf0 hw hrt hrw hpl hst hne hkl hcs hRR hK hm hK0 hK5 hKg hxx hit2 ho2 hnn hpn hin HE
          go_wp2_with (first
            | (go_at_call 64; refine (hP _).mono ?_; rintro e w1 ⟨rfl, b1⟩; have hA1 := hA2.keep b1; have hR1 := hR2.keep b1; have bb1 := hb2.trans (b1.mono hb2.size); clear hA2 hR2 hb2 hP b1 y0 y1 y2 y3)
            | (go_at_call 65; refine (hRt _).mono ?_; rintro e w2 ⟨rfl, b2⟩; have hA3 := hA1.keep b2; have hR3 := hR1.keep b2; have bb := bb1.trans (b2.mono bb1.size); obtain ⟨y0, y1, y2, y3⟩ := id hA3; obtain ⟨z0, z1, z2, z3⟩ := id hR3; clear hA1 hR1 bb1 hRt b2))
          have hQ := (hR3.set0 (.int .i64 ln)).set1 (.int .i64 co)
          obtain ⟨q0, q1, q2, q3⟩ := id hQ
          have bq : Below w.heap.size w ((w2.setCell ⟨w.heap.size, 0, none⟩ (.int .i64 ln)).setCell ⟨w.heap.size, 1, none⟩ (.int .i64 co)).drew := ((bb.setCell (by simp) _).setCell (by simp) _).drew
          clear hQ hA3 hR3
          go_region
          all_goals go_wp2
          all_goals exact bodyPost_ret (v := .tuple #[.slice none 0 0, .agg #[.int .i64 ln, .int .i64 co], .int .i64 11]) (by simp [results, Tryz.results36, go_sem, q0, q1]) rfl ⟨_, rfl, ownW_nil _ _ _, bq⟩
        | true =>
          obtain ⟨hm1, hm2, hno⟩ := hpl rfl
          have hI := hst hm1 hm2 hno
          by_cases c10 : (nx ((bl s).drop k)).1 = 10
          · -- a line feed
            have hx : rn (nx ((bl s).drop k)).1 = 10 := (rn_small (by omega)).2 c10
            obtain ⟨rfl, rfl⟩ := hK0 (.inl c10)
            have h26 := fun w1 => pBehind_feed ln co w1 (by omega)
            rw [hw, if_pos c10, List.drop_drop] at hvv
            have hn : Hid (comb acc (wrds ((runes ((bl s).drop (k + (nx ((bl s).drop k)).2))).drop 0) (ln + 1) (1 + ((0 : Nat) : Int)) acc.length) = (X, (pL, pC), er)) := hvv
            have hIH : Hid (Inn (bl s) (k + (nx ((bl s).drop k)).2) 0 (k + n)) := hI
            rw [hx] at hnx hP
            obtain ⟨q, hq⟩ : ∃ q, (nx ((bl s).drop k)).2 = q := ⟨_, rfl⟩
            rw [hq] at hit2 hn hIH hps hnl
            clear c10 hx hw hrt hrw hpl hst hne hkl hcs hRR hK hm hK0 hK5 hKg hvv hI hq hnn hpn hin HE hm1 hm2 hno
            go_wp2_with (first
              | (go_at_call 64; refine (hP _).mono ?_; rintro e w1 ⟨rfl, b1⟩; have hA1 := hA2.keep b1; have hR1 := hR2.keep b1; have hI1 := hit2.keep b1; have ho1 := ho2.below b1 (Nat.le_refl _); have bb1 := hb2.trans (b1.mono hb2.size); clear hA2 hR2 hb2 ho2 hit2 hP b1 y0 y1 y2 y3)
              | (go_at_call 65; refine (hRt _).mono ?_; rintro e w2 ⟨rfl, b2⟩; have hA3 := hA1.keep b2; have hR3 := hR1.keep b2; have hI3 := hI1.keep b2; have ho3 := ho1.below b2 (Nat.le_refl _); have bb3 := bb1.trans (b2.mono bb1.size); obtain ⟨y0, y1, y2, y3⟩ := id hA3; clear hA1 hR1 hI1 ho1 bb1 hRt b2)
              | (go_at_call 66; refine (h26 _).mono ?_; rintro e w4 ⟨rfl, b4⟩; have hA4 := hA3.keep b4; have hR4 := hR3.keep b4; have hI4 := hI3.keep b4; have ho4 := ho3.below b4 (Nat.le_refl _); have bb4 := bb3.trans (b4.mono bb3.size); obtain ⟨z0, z1, z2, z3⟩ := id hA4; clear h26 hA3 hR3 hI3 ho3 bb3 b4 y0 y1 y2 y3))
            have hI5 := (hI4.set (X := w.heap.size + 1) (i := 0) (by omega) (.int .i64 (ln + 1))).set (X := w.heap.size + 1) (i := 1) (by omega) (.int .i64 1)
            go_roundw
            case rel =>
              exact ⟨k + q, 0, k + n, ln + 1, 1, acc, by go_num, hI5, by omega, hIH, hn, by omega, by omega, by omega, by omega, hacc, (ho4.set (by simp) _).set (by simp) _, (hA4.set0 _).set1 _, ⟨a, b, (hR4.far (by omega) _).far (by omega) _⟩, (bb4.setCell (by simp) _).setCell (by simp) _⟩
            case measure => rw [iterPos_of hI5, iterPos_of hit]; omega
          · have hx : rn (nx ((bl s).drop k)).1 ≠ 10 := fun e => c10 ((rn_small (by omega)).1 e)
            have h26 := fun w1 => pBehind_on ln co (rn (nx ((bl s).drop k)).1) w1 (by omega) hx
            by_cases hbt : ((nx ((bl s).drop k)).1 = 32 ∨ (nx ((bl s).drop k)).1 = 9) ∨ (nx ((bl s).drop k)).1 = 35
            · -- a blank or a remark
              have hKm : K = 0 := hbt.elim (fun h => (hK0 (.inr h)).1) (fun h => (hK5 h).1)
              subst hKm
              have hwm : wrds R ln co acc.length = wrds (R.drop m) ln (co + (m : Int)) acc.length := by
                rcases hbt with h | h
                · rw [hw, if_neg c10, if_pos h, (hK0 (.inr h)).2, hrt 0, List.drop_zero, List.drop_drop]; rfl
                · rw [hw, if_neg c10, if_neg (by omega), if_pos h, ← (hK5 h).2]
              obtain ⟨j', rfl⟩ : ∃ j', m = j' + 1 := ⟨m - 1, by omega⟩
              rw [hwm, hrt, show co + ((j' + 1 : Nat) : Int) = co + 1 + (j' : Int) by omega] at hvv
              have hn : Hid (comb acc (wrds ((runes ((bl s).drop (k + (nx ((bl s).drop k)).2))).drop j') ln (co + 1 + (j' : Int)) acc.length) = (X, (pL, pC), er)) := hvv
              have hIH : Hid (Inn (bl s) (k + (nx ((bl s).drop k)).2) j' (k + n)) := hI
              obtain ⟨x, hxx⟩ : ∃ x, rn (nx ((bl s).drop k)).1 = x := ⟨_, rfl⟩
              obtain ⟨q, hq⟩ : ∃ q, (nx ((bl s).drop k)).2 = q := ⟨_, rfl⟩
              rw [hxx] at hnx hP
              simp only [hxx] at h26
              rw [hq] at hit2 hn hIH hps hnl
              clear c10 hx hw hrt hrw hpl hst hne hkl hcs hRR hK hm hK0 hK5 hKg hvv hI hq hnn hpn hin HE hm1 hm2 hno hbt hwm hxx
              go_wp2_with (first
                | (go_at_call 64; refine (hP _).mono ?_; rintro e w1 ⟨rfl, b1⟩; have hA1 := hA2.keep b1; have hR1 := hR2.keep b1; have hI1 := hit2.keep b1; have ho1 := ho2.below b1 (Nat.le_refl _); have bb1 := hb2.trans (b1.mono hb2.size); clear hA2 hR2 hb2 ho2 hit2 hP b1 y0 y1 y2 y3)
                | (go_at_call 65; refine (hRt _).mono ?_; rintro e w2 ⟨rfl, b2⟩; have hA3 := hA1.keep b2; have hR3 := hR1.keep b2; have hI3 := hI1.keep b2; have ho3 := ho1.below b2 (Nat.le_refl _); have bb3 := bb1.trans (b2.mono bb1.size); obtain ⟨y0, y1, y2, y3⟩ := id hA3; clear hA1 hR1 hI1 ho1 bb1 hRt b2)
                | (go_at_call 66; refine (h26 _).mono ?_; rintro e w4 ⟨rfl, b4⟩; have hA4 := hA3.keep b4; have hR4 := hR3.keep b4; have hI4 := hI3.keep b4; have ho4 := ho3.below b4 (Nat.le_refl _); have bb4 := bb3.trans (b4.mono bb3.size); obtain ⟨z0, z1, z2, z3⟩ := id hA4; clear h26 hA3 hR3 hI3 ho3 bb3 b4 y0 y1 y2 y3))
              have hI5 := (hI4.set (X := w.heap.size + 1) (i := 0) (by omega) (.int .i64 ln)).set (X := w.heap.size + 1) (i := 1) (by omega) (.int .i64 (co + 1))
              go_roundw
              case rel =>
                exact ⟨k + q, j', k + n, ln, co + 1, acc, by go_num, hI5, by omega, hIH, hn, by omega, by omega, by omega, by omega, hacc, (ho4.set (by simp) _).set (by simp) _, (hA4.set0 _).set1 _, ⟨a, b, (hR4.far (by omega) _).far (by omega) _⟩, (bb4.setCell (by simp) _).setCell (by simp) _⟩
              case measure => rw [iterPos_of hI5, iterPos_of hit]; omega
            · -- a word
              have c32 : ¬ ((nx ((bl s).drop k)).1 = 32 ∨ (nx ((bl s).drop k)).1 = 9) := fun h => hbt (.inl h)
              have c35 : ¬ (nx ((bl s).drop k)).1 = 35 := fun h => hbt (.inr h)
              obtain ⟨hK1, hfp, _⟩ := hrw c10 c32 c35
              have hf := hfp rfl
              have hf1 : (fst1 R).1 = K := by rw [hf]; exact hK
              have hf2 : (fst1 R).2 = m := by rw [hf]; exact hm
              have hKz : ((K : Int) != 0) = true := by simp; omega
              rw [hw, if_neg c10, if_neg c32, if_neg c35, hf1, hf2, if_neg (show ¬ K = 0 by omega)] at hvv
              have hlen : ∃ ao ac, u6 = .slice ao acc.length ac := by
                rcases ho2.2 with ⟨h, h2⟩ | ⟨g, cp, _, h, _⟩
                · exact ⟨none, 0, by rw [h, h2]⟩
                · exact ⟨_, _, h⟩
              obtain ⟨ao, ac, rfl⟩ := hlen
              obtain ⟨x, hxx⟩ : ∃ x, rn (nx ((bl s).drop k)).1 = x := ⟨_, rfl⟩
              rw [hxx] at hnx hP
              simp only [hxx] at h26
              by_cases a3 : acc.length = 3000
              · rw [if_pos a3, comb_err _ _ _ (by decide)] at hvv
                simp only [Prod.mk.injEq] at hvv
                obtain ⟨rfl, ⟨rfl, rfl⟩, rfl⟩ := hvv
                have h3 : ((acc.length : Int) == 3000) = true := by simp; omega
                clear c10 c32 c35 hw hrt hrw hpl hst hne hkl hcs hRR hK hm hK0 hK5 hKg hxx hit2 ho2 hnn hpn hin HE hfp hf hf1 hf2 hI hx h26 hbt hm1 hm2 hno a3
                go_wp2_with (first
                  | (go_at_call 64; refine (hP _).mono ?_; rintro e w1 ⟨rfl, b1⟩; have hA1 := hA2.keep b1; have hR1 := hR2.keep b1; have bb1 := hb2.trans (b1.mono hb2.size); clear hA2 hR2 hb2 hP b1 y0 y1 y2 y3)
                  | (go_at_call 65; refine (hRt _).mono ?_; rintro e w2 ⟨rfl, b2⟩; have hA3 := hA1.keep b2; have hR3 := hR1.keep b2; have bb := bb1.trans (b2.mono bb1.size); obtain ⟨y0, y1, y2, y3⟩ := id hA3; obtain ⟨z0, z1, z2, z3⟩ := id hR3; clear hA1 hR1 bb1 hRt b2))
                have hQ := (hR3.set0 (.int .i64 ln)).set1 (.int .i64 co)
                obtain ⟨q0, q1, q2, q3⟩ := id hQ
                have bq : Below w.heap.size w ((w2.setCell ⟨w.heap.size, 0, none⟩ (.int .i64 ln)).setCell ⟨w.heap.size, 1, none⟩ (.int .i64 co)).drew := ((bb.setCell (by simp) _).setCell (by simp) _).drew
                clear hQ hA3 hR3
                go_region
                all_goals go_wp2
                all_goals exact bodyPost_ret (v := .tuple #[.slice none 0 0, .agg #[.int .i64 ln, .int .i64 co], .int .i64 4]) (by simp [results, Tryz.results36, go_sem, q0, q1]) rfl ⟨_, rfl, ownW_nil _ _ _, bq⟩
              · rw [if_neg a3, comb_pre] at hvv
                have h3 : ((acc.length : Int) == 3000) = false := beq_eq_false_iff_ne.2 (by omega)
                have hac : acc.length < 3000 := by omega
                obtain ⟨seg, hseg⟩ : ∃ seg, R.take m = seg := ⟨_, rfl⟩
                rw [hseg] at hvv htx hRt
                obtain ⟨j', rfl⟩ : ∃ j', m = j' + 1 := ⟨m - 1, by omega⟩
                rw [hrt, show co + ((j' + 1 : Nat) : Int) = co + 1 + (j' : Int) by omega] at hvv
                have hn : Hid (comb (acc ++ [(K, seg, ln, co)]) (wrds ((runes ((bl s).drop (k + (nx ((bl s).drop k)).2))).drop j') ln (co + 1 + (j' : Int)) (acc ++ [((K, seg, ln, co) : Wd)]).length) = (X, (pL, pC), er)) := by
                  rw [List.length_append]; exact hvv
                have hIH : Hid (Inn (bl s) (k + (nx ((bl s).drop k)).2) j' (k + n)) := hI
                have hts : (txt seg).size ≤ 140737488351232 := by rw [← htx, ByteArray.size_extract]; omega
                have hC := fun w1 => pClone_any (txt seg) w1 hts
                obtain ⟨q, hq⟩ : ∃ q, (nx ((bl s).drop k)).2 = q := ⟨_, rfl⟩
                rw [hq] at hit2 hn hIH hps hnl
                clear c10 c32 c35 hw hrt hrw hpl hst hne hkl hcs hRR hK hm hK0 hK5 hKg hxx hnn hpn hin HE hfp hf hf1 hf2 hI hx hbt hm1 hm2 hno a3 hvv hq hseg hts
                go_wp2_with (first
                  | (go_at_call 64; refine (hP _).mono ?_; rintro e w1 ⟨rfl, b1⟩; have hA1 := hA2.keep b1; have hR1 := hR2.keep b1; have hI1 := hit2.keep b1; have ho1 := ho2.below b1 (Nat.le_refl _); have bb1 := hb2.trans (b1.mono hb2.size); have hq1 : w.heap.size + 3 ≤ w1.heap.size := Nat.le_trans hq3 b1.size; clear hA2 hR2 hb2 ho2 hit2 hP b1 y0 y1 y2 y3)
                  | (go_at_call 65; refine (hRt _).mono ?_; rintro e w2 ⟨rfl, b2⟩; have hA3 := hA1.keep b2; have hR3 := hR1.keep b2; have hI3 := hI1.keep b2; have ho3 := ho1.below b2 (Nat.le_refl _); have bb3 := bb1.trans (b2.mono bb1.size); have hq2 : w.heap.size + 3 ≤ w2.heap.size := Nat.le_trans hq1 b2.size; obtain ⟨y0, y1, y2, y3⟩ := id hA3; clear hA1 hR1 hI1 ho1 bb1 hRt b2))
                go_region_held_law (fun w' => w'.cell? ⟨w.heap.size + 1, 0, none⟩ = some (.int .i64 ln) ∧ w'.cell? ⟨w.heap.size + 1, 1, none⟩ = some (.int .i64 co))
                  (first | exact ⟨y0, y1⟩ | exact ⟨c0, c1⟩ | exact ⟨p0, p1⟩ | go_keep)
                  ((first
                    | (go_at_call 28; refine (hC _).mono ?_; rintro e w3 ⟨rfl, b3⟩; have b3' : Below w2.heap.size w2 w3 := ((Below.refl _ w2).drew).trans b3; have hA5 := hA3.keep b3'; have hR5 := hR3.keep b3'; have hI5 := hI3.keep b3'; have ho5 := ho3.below b3' (Nat.le_refl _); have bb5 := bb3.trans (b3'.mono bb3.size); have hq5 : w.heap.size + 3 ≤ w3.heap.size := Nat.le_trans hq2 b3'.size; obtain ⟨c0, c1, c2, c3⟩ := id hA5)
                    | (refine step_append_both _ (by rfl) (.tmp 53) (.tmp 59) 77 77 (by rfl) (w.heap.size + 3) 101 i0 (.agg #[.int .i64 0, .string ⟨#[]⟩, .int .i64 0, .int .i64 0]) 4 40 Tryz.underlying77 hi hz0 hz1 hz2 rfl _ acc.length _ (by rfl) (World.ownsRow.alloc ho5 _) _ 1 (celW (K, seg, ln, co)) (by rfl) (src_word Tryz.underlying77 w3 (K, seg, ln, co)) 1 (.inr (by omega)) (Nat.le_refl _) (by unfold maxLen; omega) (by simp; omega) ?_; intro v4 w4 ho6 hg4 _; have bel4 : Below (w.heap.size + 3) w3 w4 := (((Below.refl _ _).alloc hq5 _)).grown hg4 (by simp; omega) (fun k hk => (World.ownsRow.lt ho5 k hk).1); obtain ⟨p0, p1, p2, p3⟩ := hA5.keepB bel4 (by omega))))
                have hA6 : At w4 (w.heap.size + 1) (.int .i64 ln) (.int .i64 co) := ⟨p0, p1, p2, p3⟩
                have hR6 := hR5.keepB bel4 (by omega)
                have hI6 := hI5.keepB bel4 (by omega)
                have bb6 := bb5.trans (bel4.mono (by omega))
                have ho7 := ownW_snoc ho6
                clear ho6 hg4 ho5 ho3 hA3 hA5 hR3 hR5 hI3 hI5 bel4 bb3 bb5 b3 b3' c0 c1 c2 c3 y0 y1 y2 y3 htx hC hq2 hq5 hq1 hq3
                go_wp2_with (first
                  | (go_at_call 66; refine (h26 _).mono ?_; rintro e w8 ⟨rfl, b8⟩; have hA8 := hA6.keep b8; have hR8 := hR6.keep b8; have hI8 := hI6.keep b8; have ho8 := ho7.below b8 (Nat.le_refl _); have bb8 := bb6.trans (b8.mono bb6.size); obtain ⟨z0, z1, z2, z3⟩ := id hA8; clear h26 hA6 hR6 hI6 ho7 bb6 b8 p0 p1 p2 p3))
                have hI9 := (hI8.set (X := w.heap.size + 1) (i := 0) (by omega) (.int .i64 ln)).set (X := w.heap.size + 1) (i := 1) (by omega) (.int .i64 (co + 1))
                go_roundw
                case rel =>
                  exact ⟨k + q, j', k + n, ln, co + 1, acc ++ [(K, seg, ln, co)], by go_num, hI9, by omega, hIH, hn, by omega, by omega, by omega, by omega, by simp; omega, (ho8.set (by simp) _).set (by simp) _, (hA8.set0 _).set1 _, ⟨a, b, (hR8.far (by omega) _).far (by omega) _⟩, (bb8.setCell (by simp) _).setCell (by simp) _⟩
                case measure => rw [iterPos_of hI9, iterPos_of hit]; omega
    · have hnx : ∀ ty, (Instr.next (.pointer (some ⟨w.heap.size + 2, 0, none⟩)) true ty).run Tryz.prog wr = _ := fun ty => Lib.run_next_end_at wr (w.heap.size + 2) s k ty hit hlt
      have hnil : (bl s).drop k = [] := List.drop_eq_nil_of_le (by rw [bl_length]; omega)
      have hvv := hv.out
      rw [hnil, runes_nil, List.drop_nil, comb_end] at hvv
      simp only [Prod.mk.injEq] at hvv
      obtain ⟨rfl, ⟨rfl, rfl⟩, rfl⟩ := hvv
      obtain ⟨z0, z1, z2, z3⟩ := id hR
      have hA2 := (hR.set0 (.int .i64 0)).set1 (.int .i64 0)
      obtain ⟨q0, q1, q2, q3⟩ := id hA2
      have b2 : Below w.heap.size w ((wr.setCell ⟨w.heap.size, 0, none⟩ (.int .i64 0)).setCell ⟨w.heap.size, 1, none⟩ (.int .i64 0)) := (hb.setCell (by simp) _).setCell (by simp) _
      have o2 := (ho.set (a := ⟨w.heap.size, 0, none⟩) (by simp) (.int .i64 0)).set (a := ⟨w.heap.size, 1, none⟩) (by simp) (.int .i64 0)
      clear hnil hA hR hA2 hv HE ho hin
      go_wp2
      exact bodyPost_ret (v := .tuple #[u6, .agg #[.int .i64 0, .int .i64 0], .int .i64 0]) (by simp [results, Tryz.results36, go_sem, q0, q1]) rfl ⟨_, rfl, o2.base (by omega), b2⟩
end Go.Proofs.YtifgbioacknjpaaGreatDoor

/- Contracts of the library at this program. -/
namespace Go.Proofs.YtifgbioacknjpaaGreatDoor
open Go.Shelf
set_option linter.unusedVariables false

end Go.Proofs.YtifgbioacknjpaaGreatDoor

/- What the program's closes, mayEnd and leafOf do. -/
namespace Go.Proofs.YtifgbioacknjpaaGreatDoor
open Go.RowKit Go.Lib
set_option linter.unusedSimpArgs false
set_option linter.unusedVariables false
attribute [local go_sem ↓] Go.wp_at_zero Go.wp_at_succ





theorem At4.blk {w w' : World} {N : Nat} {a b c e : Value} (h : At4 w N a b c e) (hb : w'.heap[N]? = w.heap[N]?) : At4 w' N a b c e := by
  refine ⟨?_, ?_, ?_, ?_⟩
  · rw [World.cell?_of_block (w := w) (a := ⟨N, 0, none⟩) hb]; exact h.1
  · rw [World.cell?_of_block (w := w) (a := ⟨N, 1, none⟩) hb]; exact h.2.1
  · rw [World.cell?_of_block (w := w) (a := ⟨N, 2, none⟩) hb]; exact h.2.2.1
  · rw [World.cell?_of_block (w := w) (a := ⟨N, 3, none⟩) hb]; exact h.2.2.2


end Go.Proofs.YtifgbioacknjpaaGreatDoor

/- How many words an expression takes. -/
namespace Go.Proofs.YtifgbioacknjpaaGreatDoor
open Go.RowKit Go.Lib
set_option linter.unusedSimpArgs false
set_option linter.unusedVariables false

end Go.Proofs.YtifgbioacknjpaaGreatDoor

/- What the document's number and expr do. -/
namespace Go.Proofs.YtifgbioacknjpaaGreatDoor
open Go.RowKit Go.Lib
set_option linter.unusedSimpArgs false
set_option linter.unusedVariables false
attribute [local go_sem ↓] Go.wp_at_zero Go.wp_at_succ

theorem Dr.put4 {w : World} {X N : Nat} {fin : Pl} {r : RsC} {a : Option Addr} {cap : Nat} (h : Dr w X fin r a cap) (hN : X < N) (c0 c1 c2 c3 : Value) : Dr (Go.Proofs.YtifgbioacknjpaaGreatDoor.put4 w N c0 c1 c2 c3) X fin r a cap := (((h.far hN c0).far hN c1).far hN c2).far hN c3

theorem wpList_pushB {α : Type} {P : Program} (w : World) {ops : Array Oper} {rest : List Oper} {o : Oper} {a : Act} {Q : Exit → Act → World → Prop} (hgd : o.guard = none) (s x : Operand) (t : TypeId)
    (ho : o.op = .call { callee := .builtin .append, args := #[s, x], argTypes := #[t, t] })
    (base : Nat) (bad : Nat → Prop) (e : TypeId) (i : TypeInfo) (z : Value) (k bytes : Nat) (ht : P.underlying t = some (.slice e)) (hi : P.info? e = some i) (hz : i.zero = some z)
    (hsize : i.size = k) (hby : i.bytes = bytes) (hzs : z.cells.size = k) {R : (Nat → Prop) → World → α → List Value → Prop} (hR : Kp R)
    (v : Value) (l : List α) (p : α) (cs : List Value) (lo : Nat) (hs : a.eval s = v) (hx : a.eval x = .slice (some ⟨w.heap.size, 0, none⟩) 1 1) (hk : cs.length = k) (h1 : ∀ u ∈ cs, u.oneCell' = true)
    (hown : OwnB w base bad e k R v l) (hp : R (fun b => lo ≤ b) w p cs) (hlo : base ≤ lo) (hv : ∀ x, v.ownBlock = some x → x < lo) (hbad : ∀ b, bad b → b < lo ∧ b < w.heap.size) (hroom : (l.length + 1 + (l.length + 1) / 4 + 192) * bytes ≤ 281474976710656)
    (h63 : l.length + 1 ≤ maxLen) (hbase : base ≤ w.heap.size)
    (h : ∀ v' w', OwnB w' base bad e k R v' (l ++ [p]) → (w.alloc (.cells cs.toArray e)).grownBy w' v.ownBlock → Below base w w' → (v'.ownBlock = v.ownBlock ∨ v'.ownBlock = some (w.alloc (.cells cs.toArray e)).heap.size) → wpList P ops Q rest (a.put o.dst v') w') :
    wpList P ops Q (o :: rest) a (w.alloc (.cells cs.toArray e)) := by
  have hal : Below w.heap.size w (w.alloc (.cells cs.toArray e)) := (Below.refl _ _).alloc (Nat.le_refl _) _
  obtain ⟨qs, ho1, hl1, hr1, hg1⟩ := hown.on hR hal
  refine wpList_append_at _ hgd s x t t ho base e i z k bytes ht hi hz hsize hby hzs v l.length qs.flatten hs ho1 _ 1 cs hx (src_row ht w cs hk h1) 1 (.inr hroom) (Nat.le_refl _) h63 (Nat.le_trans hbase hal.size) ?_
  intro v' w' hown' hg hat
  refine h v' w' (OwnB.snoc hR hk rfl ho1 hl1 hr1 hown' hg hat (hR hp (fun b hb hlt => ⟨hb, hal.block b hlt⟩)) hlo hv (fun b q => ⟨(hbad b q).1, Nat.lt_of_lt_of_le (hbad b q).2 hal.size⟩) hg1) hg ?_ hat
  exact ((Below.refl base w).alloc hbase _).grown hg (Nat.le_trans hbase hal.size) (fun k hk => (World.ownsRow.lt ho1 k hk).1)
def sD (l : List UInt8) : Value := .string ⟨l.toArray⟩
def rSetD (ok : Nat → Prop) (w : World) (x : List UInt8 × Sx) (cs : List Value) : Prop := ∃ c0 c1 c2 c3, cs = [sD x.1, c0, c1, c2, c3] ∧ RdX ok w x.2 (.agg #[c0, c1, c2, c3])
theorem kp_setD : Kp rSetD := fun _ _ _ _ _ _ ⟨c0, c1, c2, c3, h, hr⟩ hk => ⟨c0, c1, c2, c3, h, hr.keep hk⟩
def rOnD (ok : Nat → Prop) (w : World) (o : OnC) (cs : List Value) : Prop := ∃ c0 c1 c2 c3 sl, cs = [sD o.1, .bool o.2.1.1, c0, c1, c2, c3, sD o.2.2.1, sl, .int .i64 o.2.2.2.2.1, .int .i64 o.2.2.2.2.2] ∧ RdX ok w o.2.1.2 (.agg #[c0, c1, c2, c3]) ∧ RdK ok w 5 (rSetD ok w) o.2.2.2.1 sl
theorem kp_onD : Kp rOnD := fun _ _ _ _ _ _ ⟨c0, c1, c2, c3, sl, h, hr, hs⟩ hk => ⟨c0, c1, c2, c3, sl, h, hr.keep hk, hs.stay kp_setD hk⟩
def hdD (h : HdC) (so si : Value) : List Value := [sD h.1.1, .int .i64 h.1.2.1, .int .i64 h.1.2.2, .bool h.2.1.1, .bool h.2.1.2, sD h.2.2.1.1, sD h.2.2.1.2, .int .i64 h.2.2.2.1.1, .int .i64 h.2.2.2.1.2, so, si]
def rStD : (d : Nat) → (Nat → Prop) → World → St d → List Value → Prop
  | 0, _, _, t, _ => Empty.elim t
  | d + 1, ok, w, t, cs => ∃ so si, cs = hdD t.1 so si ∧ RdK ok w 10 (rOnD ok w) t.1.2.2.2.2 so ∧ RdK ok w 11 (rStD d ok w) t.2 si
theorem kp_stD : ∀ d, Kp (rStD d)
  | 0 => fun _ _ _ _ x _ _ _ => Empty.elim x
  | d + 1 => fun _ _ _ _ _ _ ⟨so, si, h, h1, h2⟩ hk => ⟨so, si, h, h1.stay kp_onD hk, h2.stay (kp_stD d) hk⟩
def varD (x : List UInt8 × Int × Pl) : List Value := [sD x.1, .int .i64 x.2.1, .int .i64 x.2.2.1, .int .i64 x.2.2.2]
def rVarD (ok : Nat → Prop) (w : World) (x : List UInt8 × Int × Pl) (cs : List Value) : Prop := cs = varD x
theorem kp_varD : Kp rVarD := fun _ _ _ _ _ _ h _ => h
abbrev ChD (d : Nat) := (List UInt8 × Pl) × Int × List (List UInt8 × Int × Pl) × List (St d)
def RdD (ok : Nat → Prop) (w : World) (d : Nat) (c : ChD d) (v : Value) : Prop :=
  ∃ sv ss, v = .agg #[sD c.1.1, .int .i64 c.2.1, .int .i64 c.1.2.1, .int .i64 c.1.2.2, sv, ss] ∧ RdK ok w 4 (rVarD ok w) c.2.2.1 sv ∧ RdK ok w 11 (rStD d ok w) c.2.2.2 ss
theorem RdD.keep {ok ok' : Nat → Prop} {w w' : World} {d : Nat} {c : ChD d} {v : Value} (h : RdD ok w d c v) (hk : ∀ b, ok b → b < w.heap.size → ok' b ∧ w'.heap[b]? = w.heap[b]?) : RdD ok' w' d c v := by
  obtain ⟨sv, ss, h1, h2, h3⟩ := h
  exact ⟨sv, ss, h1, h2.stay kp_varD hk, h3.stay (kp_stD d) hk⟩
def ln0 (w : World) (X : Nat) : Nat := match w.cell? ⟨X, 0, none⟩ with | some (.slice _ n _) => n | _ => 0
theorem DR.left {w : World} {X : Nat} {fin : Pl} {r : RsC} (h : DR w X fin r) : ln0 w X = r.1.length := by
  obtain ⟨a, cap, h⟩ := h
  unfold ln0
  rw [(h.b 0 _ rfl).1]
theorem DR.len {w : World} {X : Nat} {fin : Pl} {r : RsC} (h : DR w X fin r) : r.1.length ≤ 3000 := by
  obtain ⟨a, cap, h⟩ := h
  exact h.n
theorem Fx.andD {X B : Nat} {a b c : World} (h : Fx X a b) (k : Below B b c) (hB : a.heap.size ≤ B) : Fx X a c :=
  ⟨k.os.trans h.os, k.tape.trans h.tape, k.output.trans h.output, Nat.le_trans h.size k.size, fun j hj h1 => (k.block j (by omega)).trans (h.block j hj h1)⟩
theorem Tryz.infoSetD : (Tryz.prog.info? 110).map (fun i => (i.zero, i.size, i.bytes)) = some (some (.agg #[.string ⟨#[]⟩, .int .i64 0, .int .i64 0, .string ⟨#[]⟩, .slice none 0 0]), 5, 72) := by kernel_rfl
end Go.Proofs.YtifgbioacknjpaaGreatDoor
