import Derived.Test.YtoankfbccofllaaWqc01
import Derived.Test.YtoankfbccofllaaWqc06
import Derived.Test.YtoankfbccofllaaWqc02
import Derived.BigQuiet
import Derived.Deep.QuietTactic
import Derived.BigRegion
import Derived.Test.YtoankfbccofllaaRows
import Derived.Shelf.Unicode.DecodeSlow
import Derived.Deep.RegionHeldLaw
import Derived.Deep.DeepCutAuto
import Derived.Test.YtoankfbccofllaaWqc03
import Derived.Test.YtoankfbccofllaaWqc04
import Derived.Deep.RegionLaw
import Derived.Deep.CutBlock

/- What Clean makes of a tree: memory. -/
namespace Go.Proofs.Ytoankfbccofllaa
open Go.RowKit
set_option linter.unusedSimpArgs false
set_option linter.unusedVariables false

/-- The slice v is the call's own, from block base on, and holds the trees l; their own memory lies apart. -/
def OwnN (w : World) (base : Nat) (v : Value) {d : Nat} (l : List (T d)) : Prop :=
  ∃ qs : List Q4, w.ownsRow base 78 4 v l.length (celsQ qs) ∧ qs.length = l.length ∧ ∀ (i : Nat) (h : i < l.length) (h' : i < qs.length), RdT (fun b => base ≤ b ∧ v.ownBlock ≠ some b) w d l[i] (.agg #[(qs[i]).1, (qs[i]).2.1, (qs[i]).2.2.1, (qs[i]).2.2.2])
/-- It stays where the blocks from base on that there are stay. -/
theorem OwnN.keep {w w' : World} {base : Nat} {v : Value} {d : Nat} {l : List (T d)} (h : OwnN w base v l) (hk : ∀ b, base ≤ b → b < w.heap.size → w'.heap[b]? = w.heap[b]?) : OwnN w' base v l := by
  obtain ⟨qs, ho, hl, hr⟩ := h
  refine ⟨qs, ownsRow_keep ho (fun g hg => ?_), hl, fun i h h' => RdT.keep (fun b hb hlt => ⟨hb, hk b hb.1 hlt⟩) (hr i h h')⟩
  obtain ⟨a, b⟩ := ownsRow_lt ho g hg
  exact hk g a b
theorem OwnN.below {w w' : World} {base : Nat} {v : Value} {d : Nat} {l : List (T d)} (h : OwnN w base v l) (hb : Below w.heap.size w w') : OwnN w' base v l := h.keep (fun b _ hlt => hb.block b hlt)
theorem OwnN.set {w : World} {base : Nat} {v : Value} {d : Nat} {l : List (T d)} (h : OwnN w base v l) {X i : Nat} (hX : X < base) (u : Value) : OwnN (w.setCell ⟨X, i, none⟩ u) base v l :=
  h.keep (fun b hb _ => Below.heap_setCell _ _ _ _ (fun e => by have : b = X := e; omega))
theorem OwnN.snoc {w w' : World} {base g cap lo n : Nat} {v : Value} {d : Nat} {l : List (T d)} {p : T d} {c0 c1 c2 c3 : Value} {qs : List Q4}
    (hn : l.length = n) (ho : w.ownsRow base 78 4 v n (celsQ qs)) (hl : qs.length = l.length) (hr : ∀ (i : Nat) (h : i < l.length) (h' : i < qs.length), RdT (fun b => base ≤ b ∧ v.ownBlock ≠ some b) w d l[i] (.agg #[(qs[i]).1, (qs[i]).2.1, (qs[i]).2.2.1, (qs[i]).2.2.2]))
    (ho' : w'.ownsRow base 78 4 (.slice (some ⟨g, 0, none⟩) (n + 1) cap) (n + 1) (celsQ qs ++ [c0, c1, c2, c3])) (hg : w.grownBy w' v.ownBlock) (hat : v.ownBlock = some g ∨ g = w.heap.size)
    (hp : RdT (fun b => lo ≤ b) w d p (.agg #[c0, c1, c2, c3])) (hlo : base ≤ lo) (hv : ∀ x, v.ownBlock = some x → x < lo) : OwnN w' base (.slice (some ⟨g, 0, none⟩) (n + 1) cap) (l ++ [p]) := by
  subst hn
  have key : ∀ b, base ≤ b ∧ v.ownBlock ≠ some b → b < w.heap.size → (base ≤ b ∧ (Value.slice (some ⟨g, 0, none⟩) (l.length + 1) cap).ownBlock ≠ some b) ∧ w'.heap[b]? = w.heap[b]? := fun b hb hlt => by
    refine ⟨⟨hb.1, ?_⟩, hg.block b hlt (fun e => hb.2 e.symm)⟩
    simp only [Value.ownBlock, ne_eq, Option.some.injEq]
    rintro rfl
    rcases hat with h | h
    · exact hb.2 h
    · omega
  refine ⟨qs ++ [(c0, c1, c2, c3)], ?_, by simp [hl], fun i h h' => ?_⟩
  · rw [celsQ_snoc, List.length_append]
    exact ho'
  · rcases Nat.lt_or_ge i l.length with hi | hi
    · rw [List.getElem_append_left hi, List.getElem_append_left (by omega)]
      exact RdT.keep key (hr i hi (by omega))
    · have : i = l.length := by simp at h; omega
      subst this
      have e1 : (l ++ [p])[l.length] = p := by simp
      have e2 : (qs ++ [(c0, c1, c2, c3)])[l.length]'h' = (c0, c1, c2, c3) := by simp [← hl]
      rw [e1, e2]
      exact RdT.keep (fun b hb hlt => key b ⟨by omega, fun e => by have := hv b e; omega⟩ hlt) hp
theorem OwnN.form {w : World} {base : Nat} {v : Value} {d : Nat} {l : List (T d)} (h : OwnN w base v l) : ∃ a cap, v = .slice a l.length cap := by
  obtain ⟨qs, ho, _⟩ := h
  rcases ho.2 with ⟨h1, h2⟩ | ⟨g, cap, cur, h1, _⟩
  · exact ⟨none, 0, by rw [h1, h2]⟩
  · exact ⟨_, _, h1⟩
/-- It reads as the trees. -/
theorem OwnN.rd {w : World} {base : Nat} {v : Value} {d : Nat} {l : List (T d)} (h : OwnN w base v l) : RdP (fun b => base ≤ b) w (RdT (fun b => base ≤ b) w d) l v := by
  obtain ⟨qs, ho, hl, hr⟩ := h
  have hc := fun g => World.ownsRow.cells ho (g := g)
  rcases ho.2 with ⟨rfl, hn⟩ | ⟨g, cap, cur, rfl, hb, hg, hnc, hcm, hcs, htake⟩
  · have hx : l = [] := List.eq_nil_of_length_eq_zero hn
    subst hx
    exact ⟨none, 0, rfl, by simp, by simp [maxLen], by simp, fun x hx => by cases hx⟩
  · refine ⟨some ⟨g, 0, none⟩, cap, rfl, hnc, hcm, by simp, ?_⟩
    intro x hx i hi
    obtain rfl := Option.some.inj hx
    obtain ⟨h0, h1, h2, h3⟩ := celsQ_at qs i (by omega)
    exact ⟨hb, _, _, _, _, RdT.keep (fun b hb _ => ⟨hb.1, rfl⟩) (hr i hi (by omega)), hc g rfl _ _ h0, hc g rfl _ _ h1, hc g rfl _ _ h2, hc g rfl _ _ h3⟩
theorem OwnN.base {w : World} {base lo : Nat} {d : Nat} {l : List (T d)} {v : Value} (h : RdP (fun b => base ≤ b) w (RdT (fun b => base ≤ b) w d) l v) (hlo : lo ≤ base) : RdP (fun b => lo ≤ b) w (RdT (fun b => lo ≤ b) w d) l v :=
  h.keep (fun x _ u hu => RdT.keep (fun b hb _ => ⟨by omega, rfl⟩) hu) (fun b hb _ => ⟨by omega, rfl⟩)
end Go.Proofs.Ytoankfbccofllaa

/- The document's reader in memory; what its is and fail do. -/
namespace Go.Proofs.Ytoankfbccofllaa
open Go.RowKit Go.Lib
set_option linter.unusedSimpArgs false
set_option linter.unusedVariables false
attribute [local go_sem ↓] Go.wp_at_zero Go.wp_at_succ


def RdX (ok : Nat → Prop) (w : World) (x : Sx) (v : Value) : Prop := RdT ok w x.1 x.2 v
/-- It stays, where the blocks that it may lie in stay. -/
theorem RdX.keep {ok ok' : Nat → Prop} {w w' : World} {x : Sx} {v : Value} (h : RdX ok w x v) (hk : ∀ b, ok b → b < w.heap.size → ok' b ∧ w'.heap[b]? = w.heap[b]?) : RdX ok' w' x v := RdT.keep hk h
/-- Its four cells. -/
theorem RdX.form {ok : Nat → Prop} {w : World} {x : Sx} {v : Value} (h : RdX ok w x v) : ∃ k n s a m c, v = .agg #[.int .i64 k, .int .i64 n, .string s, .slice a m c] := by
  obtain ⟨d, t⟩ := x
  match d, t, h with
  | 0, t, _ => exact Empty.elim t
  | d + 1, t, h =>
    obtain ⟨k, n, s, ps, rfl⟩ := T.open t
    obtain ⟨sl, rfl, a, cap, rfl, _⟩ := rdT_mk.1 h
    exact ⟨k, n, s, a, _, cap, rfl⟩
end Go.Proofs.Ytoankfbccofllaa

/- Nothing of it is needed here. -/
namespace Go.Proofs.Ytoankfbccofllaa
end Go.Proofs.Ytoankfbccofllaa

/- What the document's Letter, digit, inside, next, run and Name do. -/
namespace Go.Proofs.Ytoankfbccofllaa
open Go.RowKit Go.Lib
set_option linter.unusedSimpArgs false
set_option linter.unusedVariables false




end Go.Proofs.Ytoankfbccofllaa

/- What the document's primary does. -/
namespace Go.Proofs.Ytoankfbccofllaa
open Go.RowKit Go.Lib
set_option linter.unusedSimpArgs false
set_option linter.unusedVariables false
attribute [local go_sem ↓] Go.wp_at_zero Go.wp_at_succ

theorem B4.fx {X N : Nat} {w w' : World} {a b c e : Value} (h : B4 w N a b c e) (hf : Fx X w w') (hN : N ≠ X) : B4 w' N a b c e := by
  have hb : w'.heap[N]? = w.heap[N]? := hf.block N h.lt (fun q => hN (Option.some.inj q))
  have hc : ∀ i, w'.cell? ⟨N, i, none⟩ = w.cell? ⟨N, i, none⟩ := fun i => World.cell?_of_block (w := w) (a := ⟨N, i, none⟩) hb
  have hz : ∀ i, w'.frozen? ⟨N, i, none⟩ = w.frozen? ⟨N, i, none⟩ := fun i => World.frozen?_of_block (w := w) (a := ⟨N, i, none⟩) hb
  exact ⟨(hc 0).trans h.c0, (hc 1).trans h.c1, (hc 2).trans h.c2, (hc 3).trans h.c3, (hz 0).trans h.f0, (hz 1).trans h.f1, (hz 2).trans h.f2, (hz 3).trans h.f3⟩
theorem Fx.put4 {X N : Nat} {a b : World} (h : Fx X a b) (hN : a.heap.size ≤ N) (c0 c1 c2 c3 : Value) : Fx X a (put4 b N c0 c1 c2 c3) := (((h.setN hN c0).setN hN c1).setN hN c2).setN hN c3


/-- How many words are left to be read, as memory tells. -/
def rat (X L : Nat) (w : World) : Nat := match w.cell? ⟨X, 1, none⟩, w.cell? ⟨X, 2, none⟩ with | some (.int _ z), some (.int _ b) => if b < 0 then L - z.toNat + 1 else 0 | _, _ => 0
theorem Rr.rat {w : World} {X : Nat} {a : Option Addr} {cap : Nat} {ws : List Wd} {n : Nat} {b : Int} (h : Rr w X a cap ws n b) (L : Nat) : rat X L w = if b < 0 then L - n + 1 else 0 := by
  unfold Go.Proofs.Ytoankfbccofllaa.rat
  rw [h.c1, h.c2]
  simp only [Int.toNat_natCast]
end Go.Proofs.Ytoankfbccofllaa

/- What the document's Nodes and deep do. -/
namespace Go.Proofs.Ytoankfbccofllaa
open Go.RowKit
set_option linter.unusedSimpArgs false
set_option linter.unusedVariables false

end Go.Proofs.Ytoankfbccofllaa

/- What the document's operator, sound and Formed do. -/
namespace Go.Proofs.Ytoankfbccofllaa
open Go.RowKit Go.Lib
set_option linter.unusedSimpArgs false
set_option linter.unusedVariables false


end Go.Proofs.Ytoankfbccofllaa

/- What the document's Take does. -/
namespace Go.Proofs.Ytoankfbccofllaa
open Go.RowKit Go.Lib
set_option linter.unusedSimpArgs false
set_option linter.unusedVariables false
attribute [local go_sem ↓] Go.wp_at_zero Go.wp_at_succ


def drV (a : Option Addr) (cap : Nat) (fin : Pl) (r : RsC) : List Value := [.slice a r.1.length cap, .int .i64 fin.1, .int .i64 fin.2, .int .i64 r.2.1.1, .int .i64 r.2.1.2, .int .i64 r.2.2]
/-- The document's reader in block X. -/
structure Dr (w : World) (X : Nat) (fin : Pl) (r : RsC) (a : Option Addr) (cap : Nat) : Prop where
  b : Bn w X (drV a cap fin r)
  l : RdL w X a r.1
  c : r.1.length ≤ cap
  m : cap ≤ maxLen
  n : r.1.length ≤ 3000
  o : ∀ x ∈ r.1, OneW x.1 x.2.1
theorem Dr.lt {w : World} {X : Nat} {fin : Pl} {r : RsC} {a : Option Addr} {cap : Nat} (h : Dr w X fin r a cap) : X < w.heap.size := World.block_lt_of_cell? w _ (h.b 0 _ rfl).1
theorem RdL.keepB {w w' : World} {X B : Nat} {a : Option Addr} {ws : List Wd} (h : RdL w X a ws) (hb : Below B w w') (hX : X ≤ B) : RdL w' X a ws := fun i hi => by
  obtain ⟨g, off, h1, h2, d0, d1, d2, d3⟩ := h i hi
  have hg : g < B := Nat.lt_of_lt_of_le h2 hX
  exact ⟨g, off, h1, h2, (hb.cell (p := ⟨g, off + i * 4, none⟩) hg).trans d0, (hb.cell (p := ⟨g, off + i * 4 + 1, none⟩) hg).trans d1, (hb.cell (p := ⟨g, off + i * 4 + 2, none⟩) hg).trans d2, (hb.cell (p := ⟨g, off + i * 4 + 3, none⟩) hg).trans d3⟩
theorem Dr.belowB {w w' : World} {X B : Nat} {fin : Pl} {r : RsC} {a : Option Addr} {cap : Nat} (h : Dr w X fin r a cap) (hb : Below B w w') (hX : X < B) : Dr w' X fin r a cap :=
  ⟨h.b.blk (hb.block X hX), h.l.keepB hb (by omega), h.c, h.m, h.n, h.o⟩
theorem Dr.on {w w' : World} {X : Nat} {fin : Pl} {r : RsC} {a : Option Addr} {cap : Nat} (h : Dr w X fin r a cap) (hb : Below w.heap.size w w') : Dr w' X fin r a cap := h.belowB hb h.lt
theorem RdL.far {w : World} {X Y i : Nat} {a : Option Addr} {ws : List Wd} (h : RdL w X a ws) (hY : X ≤ Y) (u : Value) : RdL (w.setCell ⟨Y, i, none⟩ u) X a ws := fun j hj => by
  obtain ⟨g, off, h1, h3, d0, d1, d2, d3⟩ := h j hj
  exact ⟨g, off, h1, h3, cell_far4 (by omega) d0, cell_far4 (by omega) d1, cell_far4 (by omega) d2, cell_far4 (by omega) d3⟩
theorem Dr.far {w : World} {X Y i : Nat} {fin : Pl} {r : RsC} {a : Option Addr} {cap : Nat} (h : Dr w X fin r a cap) (hY : X < Y) (u : Value) : Dr (w.setCell ⟨Y, i, none⟩ u) X fin r a cap :=
  ⟨h.b.far (by omega) u, h.l.far (by omega) u, h.c, h.m, h.n, h.o⟩
/-- The reader, wherever its words lie. -/
def DR (w : World) (X : Nat) (fin : Pl) (r : RsC) : Prop := ∃ a cap, Dr w X fin r a cap
theorem DR.lt {w : World} {X : Nat} {fin : Pl} {r : RsC} (h : DR w X fin r) : X < w.heap.size := by obtain ⟨a, cap, h⟩ := h; exact h.lt
theorem DR.on {w w' : World} {X : Nat} {fin : Pl} {r : RsC} (h : DR w X fin r) (hb : Below w.heap.size w w') : DR w' X fin r := by obtain ⟨a, cap, h⟩ := h; exact ⟨a, cap, h.on hb⟩
theorem DR.belowB {w w' : World} {X B : Nat} {fin : Pl} {r : RsC} (h : DR w X fin r) (hb : Below B w w') (hX : X < B) : DR w' X fin r := by obtain ⟨a, cap, h⟩ := h; exact ⟨a, cap, h.belowB hb hX⟩
theorem DR.far {w : World} {X Y i : Nat} {fin : Pl} {r : RsC} (h : DR w X fin r) (hY : X < Y) (u : Value) : DR (w.setCell ⟨Y, i, none⟩ u) X fin r := by obtain ⟨a, cap, h⟩ := h; exact ⟨a, cap, h.far hY u⟩


/-- The next word's cells. -/
theorem Dr.word {w : World} {X : Nat} {fin : Pl} {r : RsC} {a : Option Addr} {cap : Nat} (h : Dr w X fin r a cap) {x : Wd} {l : List Wd} (hr : r.1 = x :: l) : ∃ g off, a = some ⟨g, off, none⟩ ∧ g < X ∧ w.cell? ⟨g, off, none⟩ = some (.int .i64 (x.1 : Int)) ∧ w.cell? ⟨g, off + 1, none⟩ = some (.string (txt x.2.1)) ∧ w.cell? ⟨g, off + 2, none⟩ = some (.int .i64 x.2.2.1) ∧ w.cell? ⟨g, off + 3, none⟩ = some (.int .i64 x.2.2.2) ∧ OneW x.1 x.2.1 := by
  have hL := h.l
  have ho := h.o x (by rw [hr]; exact List.mem_cons_self ..)
  rw [hr] at hL
  obtain ⟨g, off, h1, h2, d0, d1, d2, d3⟩ := hL 0 (by simp)
  rw [Nat.zero_mul] at d0 d1 d2 d3
  simp only [Nat.add_zero, List.getElem_cons_zero] at d0 d1 d2 d3
  exact ⟨g, off, h1, h2, d0, d1, d2, d3, ho⟩






/-- From byte k on, j runes more belong to a piece that ends at byte p. -/
structure Inn (l : List UInt8) (k j p : Nat) : Prop where
  cnt : j ≤ (runes (l.drop k)).length
  size : k + (byt ((runes (l.drop k)).take j)).length = p
  no10 : ∀ v ∈ (runes (l.drop k)).take j, v.1 ≠ 10
theorem Inn.zero (l : List UInt8) (k : Nat) : Inn l k 0 k := ⟨Nat.zero_le _, rfl, fun v hv => by simp at hv⟩
theorem Inn.le {l : List UInt8} {k j p : Nat} (h : Inn l k j p) (hk : k ≤ l.length) : p ≤ l.length := by
  have h1 := byt_split (runes (l.drop k)) j
  rw [byt_runes _ _ (Nat.le_refl _), List.length_drop] at h1
  have := h.size
  omega
theorem Inn.step {l : List UInt8} {k j p : Nat} (hk : k < l.length) (h : Inn l k (j + 1) p) : Inn l (k + (nx (l.drop k)).2) j p ∧ (nx (l.drop k)).1 ≠ 10 ∧ k < p := by
  have hne := drop_ne hk
  have hc := runes_cons hne
  have hle := nx_le hne
  have hps := nx_pos hne
  rw [List.drop_drop] at hc
  obtain ⟨h1, h2, h3⟩ := h
  rw [hc] at h1 h2 h3
  rw [List.take_succ_cons] at h2 h3
  rw [byt_cons, List.length_append, List.length_take, Nat.min_eq_left hle] at h2
  exact ⟨⟨by simpa using h1, by omega, fun v hv => h3 v (List.mem_cons_of_mem _ hv)⟩, h3 _ List.mem_cons_self, by omega⟩
end Go.Proofs.Ytoankfbccofllaa

/- Nothing of it is needed here. -/
namespace Go.Proofs.Ytoankfbccofllaa
end Go.Proofs.Ytoankfbccofllaa

/- What the program's closes, mayEnd and leafOf do. -/
namespace Go.Proofs.Ytoankfbccofllaa
open Go.RowKit Go.Lib
set_option linter.unusedSimpArgs false
set_option linter.unusedVariables false
attribute [local go_sem ↓] Go.wp_at_zero Go.wp_at_succ





theorem At4.blk {w w' : World} {N : Nat} {a b c e : Value} (h : At4 w N a b c e) (hb : w'.heap[N]? = w.heap[N]?) : At4 w' N a b c e := by
  refine ⟨?_, ?_, ?_, ?_⟩
  · rw [World.cell?_of_block (w := w) (a := ⟨N, 0, none⟩) hb]; exact h.1
  · rw [World.cell?_of_block (w := w) (a := ⟨N, 1, none⟩) hb]; exact h.2.1
  · rw [World.cell?_of_block (w := w) (a := ⟨N, 2, none⟩) hb]; exact h.2.2.1
  · rw [World.cell?_of_block (w := w) (a := ⟨N, 3, none⟩) hb]; exact h.2.2.2


end Go.Proofs.Ytoankfbccofllaa

/- What is asked of the program's Formed. -/
namespace Go.Proofs.Ytoankfbccofllaa
open Go.RowKit Go.Lib
set_option linter.unusedSimpArgs false
set_option linter.unusedVariables false

theorem At4.on {w w' : World} {X : Nat} {a b c e : Value} (h : At4 w X a b c e) (hb : Below w.heap.size w w') : At4 w' X a b c e := h.keepB hb (World.block_lt_of_cell? w _ h.1)
/-- A small tree, cleaned. -/
theorem small_cln {d : Nat} {t : T d} (h : 0 ≤ sml d t 0 200) : cnt (d + 1) (cln d t) ≤ 1000 ∧ shrt 1000 (d + 1) (cln d t) = true := by
  obtain ⟨h1, h2⟩ := sml_ok d t 0 200 h
  have h3 := cnt_cln d t
  exact ⟨by omega, shrt_cln 1000 d t h2⟩
end Go.Proofs.Ytoankfbccofllaa

/- What the program's rightWithin and Formed do. -/
namespace Go.Proofs.Ytoankfbccofllaa
open Go.RowKit Go.Lib
set_option linter.unusedSimpArgs false
set_option linter.unusedVariables false
attribute [local go_sem ↓] Go.wp_at_zero Go.wp_at_succ


end Go.Proofs.Ytoankfbccofllaa

/- How many words an expression takes. -/
namespace Go.Proofs.Ytoankfbccofllaa
open Go.RowKit Go.Lib
set_option linter.unusedSimpArgs false
set_option linter.unusedVariables false

end Go.Proofs.Ytoankfbccofllaa

/- What the document's number and expr do. -/
namespace Go.Proofs.Ytoankfbccofllaa
open Go.RowKit Go.Lib
set_option linter.unusedSimpArgs false
set_option linter.unusedVariables false
attribute [local go_sem ↓] Go.wp_at_zero Go.wp_at_succ

theorem Dr.put4 {w : World} {X N : Nat} {fin : Pl} {r : RsC} {a : Option Addr} {cap : Nat} (h : Dr w X fin r a cap) (hN : X < N) (c0 c1 c2 c3 : Value) : Dr (Go.Proofs.Ytoankfbccofllaa.put4 w N c0 c1 c2 c3) X fin r a cap := (((h.far hN c0).far hN c1).far hN c2).far hN c3

theorem wpList_pushB {α : Type} {P : Program} (w : World) {ops : Array Oper} {rest : List Oper} {o : Oper} {a : Act} {Q : Exit → Act → World → Prop} (hgd : o.guard = none) (s x : Operand) (t : TypeId)
    (ho : o.op = .call { callee := .builtin .append, args := #[s, x], argTypes := #[t, t] })
    (base : Nat) (bad : Nat → Prop) (e : TypeId) (i : TypeInfo) (z : Value) (k bytes : Nat) (ht : P.underlying t = some (.slice e)) (hi : P.info? e = some i) (hz : i.zero = some z)
    (hsize : i.size = k) (hby : i.bytes = bytes) (hzs : z.cells.size = k) {R : (Nat → Prop) → World → α → List Value → Prop} (hR : Kp R)
    (v : Value) (l : List α) (p : α) (cs : List Value) (lo : Nat) (hs : a.eval s = v) (hx : a.eval x = .slice (some ⟨w.heap.size, 0, none⟩) 1 1) (hk : cs.length = k) (h1 : ∀ u ∈ cs, u.oneCell' = true)
    (hown : OwnB w base bad e k R v l) (hp : R (fun b => lo ≤ b) w p cs) (hlo : base ≤ lo) (hv : ∀ x, v.ownBlock = some x → x < lo) (hbad : ∀ b, bad b → b < lo ∧ b < w.heap.size) (hroom : (l.length + 1 + (l.length + 1) / 4 + 192) * bytes ≤ 281474976710656)
    (h63 : l.length + 1 ≤ maxLen) (hbase : base ≤ w.heap.size)
    (h : ∀ v' w', OwnB w' base bad e k R v' (l ++ [p]) → (w.alloc (.cells cs.toArray e)).grownBy w' v.ownBlock → Below base w w' → (v'.ownBlock = v.ownBlock ∨ v'.ownBlock = some (w.alloc (.cells cs.toArray e)).heap.size) → wpList P ops Q rest (a.put o.dst v') w') :
    wpList P ops Q (o :: rest) a (w.alloc (.cells cs.toArray e)) := by
  have hal : Below w.heap.size w (w.alloc (.cells cs.toArray e)) := (Below.refl _ _).alloc (Nat.le_refl _) _
  obtain ⟨qs, ho1, hl1, hr1, hg1⟩ := hown.on hR hal
  refine wpList_append_at _ hgd s x t t ho base e i z k bytes ht hi hz hsize hby hzs v l.length qs.flatten hs ho1 _ 1 cs hx (src_row ht w cs hk h1) 1 (.inr hroom) (Nat.le_refl _) h63 (Nat.le_trans hbase hal.size) ?_
  intro v' w' hown' hg hat
  refine h v' w' (OwnB.snoc hR hk rfl ho1 hl1 hr1 hown' hg hat (hR hp (fun b hb hlt => ⟨hb, hal.block b hlt⟩)) hlo hv (fun b q => ⟨(hbad b q).1, Nat.lt_of_lt_of_le (hbad b q).2 hal.size⟩) hg1) hg ?_ hat
  exact ((Below.refl base w).alloc hbase _).grown hg (Nat.le_trans hbase hal.size) (fun k hk => (World.ownsRow.lt ho1 k hk).1)
def sD (l : List UInt8) : Value := .string ⟨l.toArray⟩
def rSetD (ok : Nat → Prop) (w : World) (x : List UInt8 × Sx) (cs : List Value) : Prop := ∃ c0 c1 c2 c3, cs = [sD x.1, c0, c1, c2, c3] ∧ RdX ok w x.2 (.agg #[c0, c1, c2, c3])
theorem kp_setD : Kp rSetD := fun _ _ _ _ _ _ ⟨c0, c1, c2, c3, h, hr⟩ hk => ⟨c0, c1, c2, c3, h, hr.keep hk⟩
def rOnD (ok : Nat → Prop) (w : World) (o : OnC) (cs : List Value) : Prop := ∃ c0 c1 c2 c3 sl, cs = [sD o.1, .bool o.2.1.1, c0, c1, c2, c3, sD o.2.2.1, sl, .int .i64 o.2.2.2.2.1, .int .i64 o.2.2.2.2.2] ∧ RdX ok w o.2.1.2 (.agg #[c0, c1, c2, c3]) ∧ RdK ok w 5 (rSetD ok w) o.2.2.2.1 sl
theorem kp_onD : Kp rOnD := fun _ _ _ _ _ _ ⟨c0, c1, c2, c3, sl, h, hr, hs⟩ hk => ⟨c0, c1, c2, c3, sl, h, hr.keep hk, hs.stay kp_setD hk⟩
def hdD (h : HdC) (so si : Value) : List Value := [sD h.1.1, .int .i64 h.1.2.1, .int .i64 h.1.2.2, .bool h.2.1.1, .bool h.2.1.2, sD h.2.2.1.1, sD h.2.2.1.2, .int .i64 h.2.2.2.1.1, .int .i64 h.2.2.2.1.2, so, si]
def rStD : (d : Nat) → (Nat → Prop) → World → St d → List Value → Prop
  | 0, _, _, t, _ => Empty.elim t
  | d + 1, ok, w, t, cs => ∃ so si, cs = hdD t.1 so si ∧ RdK ok w 10 (rOnD ok w) t.1.2.2.2.2 so ∧ RdK ok w 11 (rStD d ok w) t.2 si
theorem kp_stD : ∀ d, Kp (rStD d)
  | 0 => fun _ _ _ _ x _ _ _ => Empty.elim x
  | d + 1 => fun _ _ _ _ _ _ ⟨so, si, h, h1, h2⟩ hk => ⟨so, si, h, h1.stay kp_onD hk, h2.stay (kp_stD d) hk⟩
def varD (x : List UInt8 × Int × Pl) : List Value := [sD x.1, .int .i64 x.2.1, .int .i64 x.2.2.1, .int .i64 x.2.2.2]
def rVarD (ok : Nat → Prop) (w : World) (x : List UInt8 × Int × Pl) (cs : List Value) : Prop := cs = varD x
theorem kp_varD : Kp rVarD := fun _ _ _ _ _ _ h _ => h
abbrev ChD (d : Nat) := (List UInt8 × Pl) × Int × List (List UInt8 × Int × Pl) × List (St d)
def RdD (ok : Nat → Prop) (w : World) (d : Nat) (c : ChD d) (v : Value) : Prop :=
  ∃ sv ss, v = .agg #[sD c.1.1, .int .i64 c.2.1, .int .i64 c.1.2.1, .int .i64 c.1.2.2, sv, ss] ∧ RdK ok w 4 (rVarD ok w) c.2.2.1 sv ∧ RdK ok w 11 (rStD d ok w) c.2.2.2 ss
theorem RdD.keep {ok ok' : Nat → Prop} {w w' : World} {d : Nat} {c : ChD d} {v : Value} (h : RdD ok w d c v) (hk : ∀ b, ok b → b < w.heap.size → ok' b ∧ w'.heap[b]? = w.heap[b]?) : RdD ok' w' d c v := by
  obtain ⟨sv, ss, h1, h2, h3⟩ := h
  exact ⟨sv, ss, h1, h2.stay kp_varD hk, h3.stay (kp_stD d) hk⟩
def ln0 (w : World) (X : Nat) : Nat := match w.cell? ⟨X, 0, none⟩ with | some (.slice _ n _) => n | _ => 0
theorem DR.left {w : World} {X : Nat} {fin : Pl} {r : RsC} (h : DR w X fin r) : ln0 w X = r.1.length := by
  obtain ⟨a, cap, h⟩ := h
  unfold ln0
  rw [(h.b 0 _ rfl).1]
theorem DR.len {w : World} {X : Nat} {fin : Pl} {r : RsC} (h : DR w X fin r) : r.1.length ≤ 3000 := by
  obtain ⟨a, cap, h⟩ := h
  exact h.n
theorem Fx.andD {X B : Nat} {a b c : World} (h : Fx X a b) (k : Below B b c) (hB : a.heap.size ≤ B) : Fx X a c :=
  ⟨k.os.trans h.os, k.tape.trans h.tape, k.output.trans h.output, Nat.le_trans h.size k.size, fun j hj h1 => (k.block j (by omega)).trans (h.block j hj h1)⟩
end Go.Proofs.Ytoankfbccofllaa

/- Arguments that are the document's charts, opened. -/
namespace Go.Proofs.Ytoankfbccofllaa
open Go.ChangeShapes Go.WideShapes Go.ChangeAt Go.RowKit
set_option linter.unusedSimpArgs false
set_option linter.unusedVariables false

theorem weights_all {H : Type} {P : Program} {e : TypeId} : ∀ {l : List (DataW H)} {d : DataW H}, d ∈ l → ∀ n ∈ d.weights P e, n ∈ DataW.weightsAll P e l
  | x :: r, d, h, n, hn => by
    simp only [DataW.weightsAll, List.mem_append]
    rcases List.mem_cons.1 h with rfl | h
    · exact .inl hn
    · exact .inr (weights_all h n hn)
/-- What is met is not larger than what there may be. -/
def Wt {H : Type} (t : TypeId) (d : DataW H) : Prop := ∀ n ∈ d.weights Try.prog t, n ≤ reachBytes
theorem Wt.field {H : Type} {t u : TypeId} {fs : Array Field} {f : Field} {xs : List (DataW H × List MemPlace)} {y : DataW H × List MemPlace} (hu : Try.prog.underlying t = some (.struct fs)) (h : Wt t (.agg (xs.map (·.1)))) (j : Nat) (hf : fs[j]? = some f) (hy : xs[j]? = some y) (ht : f.type = u) : Wt u y.1 := fun n hn => by
  refine h n ?_
  simp only [DataW.weights, hu]
  refine DataW.weights_mem_each (j := j) (t := u) (d := y.1) ?_ (by simp [hy]) n hn
  simp [hf, ht]
theorem spot_none {w : World} {a : Addr} {v : Value} (h : w.cell? (a.add 0) = some v) : a = ⟨a.block, a.off, none⟩ := by
  rw [show a.add 0 = a from by simp [Addr.add]] at h
  unfold World.cell? at h
  split at h
  · obtain ⟨b, o, s⟩ := a
    cases s with
    | none => rfl
    | some x => simp at h
  · cases h
theorem RdK.both {α : Type} {ok : Nat → Prop} {w : World} {k : Nat} {R : α → List Value → Prop} {Q : α → Prop} {l : List α} {v : Value} (h : RdK ok w k (fun x cs => R x cs ∧ Q x) l v) : RdK ok w k R l v ∧ ∀ x ∈ l, Q x := by
  obtain ⟨a, cap, h1, h2, h3, h4⟩ := h
  refine ⟨⟨a, cap, h1, h2, h3, fun i hi => ?_⟩, fun x hx => ?_⟩
  · obtain ⟨b, off, cs, q1, q2, q3, q4, q5, q6⟩ := h4 i hi
    exact ⟨b, off, cs, q1, q2, q3, q4, q5.1, q6⟩
  · obtain ⟨i, hi, rfl⟩ := List.getElem_of_mem hx
    obtain ⟨b, off, cs, q1, q2, q3, q4, q5, q6⟩ := h4 i hi
    exact q5.2
section
variable {H : Type} {enc : TypeId × Value → H} {W : World}
theorem open_row {α : Type} {k : Nat} {R : α → List Value → Prop} {sl el : TypeId} (hu : Try.prog.underlying sl = some (.slice el)) (hc : Try.prog.cellsOf el = k) (hk : 0 < k) (hby : decide (1 ≤ Try.prog.bytesOf el) = true) {fuel : Nat} {cs : List Value} {x : DataW H × List MemPlace}
    (h : DataW.trod enc Try.prog W 0 (fun _ => true) true fuel sl cs = some x) (hw : Wt sl x.1) (hel : ∀ n' cs' y, fuel = n' + 1 → DataW.trod enc Try.prog W 0 (fun _ => true) true n' el cs' = some y → Wt el y.1 → ∃ a, R a cs') :
    ∃ (l : List α) (v : Value), cs = [v] ∧ RdK (fun _ => True) W k R l v ∧ l.length ≤ 140737488351232 := by
  rcases DataW.trod_slice hu h with ⟨rfl, _⟩ | ⟨ad, len, cap, elems, rest, n', hn', rfl, rfl, _, hlc, hcm, hel', helt, _, _⟩
  · exact ⟨[], _, rfl, rdK_none _ _ _ _, by simp⟩
  · have hlw : len ≤ 140737488351232 := by
      have h0 := hw ((elems.length + rest.length) * Try.prog.bytesOf el) (by simp [DataW.weights, hu])
      have h1 : (elems.length + rest.length) * 1 ≤ (elems.length + rest.length) * Try.prog.bytesOf el := Nat.mul_le_mul_left _ (of_decide_eq_true hby)
      have h2 : reachBytes = 140737488351232 := rfl
      omega
    rw [hc] at helt
    have hall : ∀ i, i < len → ∃ q : α × List Value, W.cells? 0 (ad.add (i * k)) k = some q.2 ∧ R q.1 q.2 := by
      intro i hi
      have h1 := helt i hi
      have hie : i < elems.length := by omega
      rw [List.getElem?_eq_getElem hie] at h1
      obtain ⟨cs', h2, h3⟩ := Option.bind_eq_some_iff.1 h1
      obtain ⟨a, ha⟩ := hel n' cs' _ hn' h3 (fun n hn => by
        refine hw n ?_
        simp only [DataW.weights, hu]
        exact List.mem_cons_of_mem _ (List.mem_append_left _ (weights_all (List.mem_map_of_mem (List.getElem_mem hie)) n hn)))
      exact ⟨(a, cs'), h2, ha⟩
    obtain ⟨l, hll, hfy⟩ := pick len hall
    refine ⟨l.map (·.1), _, rfl, ⟨some ad, cap, by simp [hll], by simpa [hll] using hlc, hcm, fun i hi => ?_⟩, by simpa [hll] using hlw⟩
    have hi' : i < l.length := by simpa using hi
    obtain ⟨_, q2, q3⟩ := World.cells?_some (hfy 0 (by omega)).1
    obtain ⟨_, g2, g3⟩ := World.cells?_some (hfy i hi').1
    have hs : ad = ⟨ad.block, ad.off, none⟩ := by
      have := q3 0 hk
      rw [Nat.zero_mul, show (ad.add 0).add 0 = ad.add 0 from by simp [Addr.add], List.getElem?_eq_getElem (by omega)] at this
      exact spot_none this
    generalize ad.block = b at hs
    generalize ad.off = off at hs
    subst hs
    have g4 : ∀ j u, (l[i]).2[j]? = some u → W.cell? ⟨b, off + i * k + j, none⟩ = some u := fun j u hj => by
      have hjl := (List.getElem?_eq_some_iff.1 hj).1
      have := g3 j (by omega)
      rw [add_plain, add_plain, hj] at this
      exact this
    refine ⟨b, off, (l[i]).2, rfl, trivial, ?_, g2, ?_, g4⟩
    · exact World.block_lt_of_cell? W _ (g4 0 _ (List.getElem?_eq_getElem (by omega)))
    · rw [List.getElem_map]
      exact (hfy i hi').2
theorem open_node1 {fuel : Nat} {cs : List Value} {x : DataW H × List MemPlace} (h : DataW.trod enc Try.prog W 0 (fun _ => true) true fuel 78 cs = some x) :
    ∃ (x : Sx) (c0 c1 c2 c3 : Value), cs = [c0, c1, c2, c3] ∧ RdX (fun _ => True) W x (.agg #[c0, c1, c2, c3]) := by
  obtain ⟨d, t, c0, c1, c2, c3, _, hcs, hr⟩ := open_node fuel fuel (Nat.le_refl _) h
  exact ⟨⟨d, t⟩, c0, c1, c2, c3, hcs, hr⟩
set_option maxRecDepth 100000 in
theorem open_pos {fuel : Nat} {cs : List Value} {x : DataW H × List MemPlace} (h : DataW.trod enc Try.prog W 0 (fun _ => true) true fuel 23 cs = some x) : ∃ p : Pl, cs = [.int .i64 p.1, .int .i64 p.2] := by
  obtain ⟨xs, n, _, rfl, hl, hlen, hf⟩ := DataW.trod_struct Try.underlying23 h
  have hc : Try.prog.cellsOf 23 = 2 := by kernel_rfl
  have cI : Try.prog.cellsOf 3 = 1 := by kernel_rfl
  rw [hc] at hl
  have f0 : DataW.trod enc Try.prog W 0 (fun _ => true) true n 3 ((cs.drop 0).take (Try.prog.cellsOf 3)) = xs[0]? := hf 0 _ rfl
  have f1 : DataW.trod enc Try.prog W 0 (fun _ => true) true n 3 ((cs.drop 1).take (Try.prog.cellsOf 3)) = xs[1]? := hf 1 _ rfl
  rw [cI] at f0 f1
  match cs, hl, xs, hlen with
  | [a, b], _, [y0, y1], _ =>
    simp only [List.drop_zero, List.take_succ_cons, List.take_zero, List.drop_succ_cons, List.getElem?_cons_zero, List.getElem?_cons_succ] at f0 f1
    obtain ⟨k, e0, _, _⟩ := DataW.trod_int Try.underlying3 f0
    obtain ⟨m, e1, _, _⟩ := DataW.trod_int Try.underlying3 f1
    simp only [List.cons.injEq, and_true] at e0 e1
    subst e0 e1
    exact ⟨(k, m), rfl⟩
theorem str_wt {s : ByteArray} (h : Wt (H := H) 9 (.lit (.string s.data.toList))) : s.size ≤ 140737488351232 := by
  have := h s.data.toList.length (by simp [DataW.weights])
  simpa [reachBytes] using this
theorem sD_of (s : ByteArray) : Value.string s = sD s.data.toList := by unfold sD; simp
/-- A number that an int holds. -/
def WfI (n : Int) : Prop := (Lit.int .i64 n).wf = true
def WfV (v : List UInt8 × Int × Pl) : Prop := v.1.length ≤ 140737488351232
set_option maxRecDepth 100000 in
theorem open_varD {fuel : Nat} {cs : List Value} {x : DataW H × List MemPlace} (h : DataW.trod enc Try.prog W 0 (fun _ => true) true fuel 70 cs = some x) (hw : Wt 70 x.1) : ∃ v, rVarD (fun _ => True) W v cs ∧ WfV v := by
  obtain ⟨xs, n, _, rfl, hl, hlen, hf⟩ := DataW.trod_struct Try.underlying70 h
  have hc : Try.prog.cellsOf 70 = 4 := by kernel_rfl
  have cL : Try.prog.cellsOf 2 = 1 := by kernel_rfl
  have c9 : Try.prog.cellsOf 9 = 1 := by kernel_rfl
  have cp : Try.prog.cellsOf 23 = 2 := by kernel_rfl
  rw [hc] at hl
  have f0 : DataW.trod enc Try.prog W 0 (fun _ => true) true n 9 ((cs.drop 0).take (Try.prog.cellsOf 9)) = xs[0]? := hf 0 _ rfl
  have f1 : DataW.trod enc Try.prog W 0 (fun _ => true) true n 2 ((cs.drop 1).take (Try.prog.cellsOf 2)) = xs[1]? := hf 1 _ rfl
  have f2 : DataW.trod enc Try.prog W 0 (fun _ => true) true n 23 ((cs.drop 2).take (Try.prog.cellsOf 23)) = xs[2]? := hf 2 _ rfl
  rw [c9] at f0
  rw [cL] at f1
  rw [cp] at f2
  match cs, hl, xs, hlen with
  | [a, b, c, e], _, [y0, y1, y2], _ =>
    have w0 := hw.field Try.underlying70 0 rfl rfl rfl
    simp only [List.drop_zero, List.take_succ_cons, List.take_zero, List.drop_succ_cons, List.getElem?_cons_zero, List.getElem?_cons_succ] at f0 f1 f2
    obtain ⟨s, e0, rfl, _⟩ := DataW.trod_string Try.underlying9 f0
    obtain ⟨m, e1, _, _⟩ := DataW.trod_int Try.underlying2 f1
    obtain ⟨p, e2⟩ := open_pos f2
    simp only [List.cons.injEq, and_true] at e0 e1 e2
    obtain ⟨e2, e3⟩ := e2
    subst e0 e1 e2 e3
    refine ⟨(s.data.toList, m, p), ?_, ?_⟩
    · show [_, _, _, _] = [sD s.data.toList, _, _, _]
      rw [sD_of]
    · have := str_wt w0
      simpa [WfV] using this
def WfT (s : List UInt8 × Sx) : Prop := s.1.length ≤ 140737488351232
def WfO (o : OnC) : Prop := o.1.length ≤ 140737488351232 ∧ o.2.2.1.length ≤ 140737488351232 ∧ o.2.2.2.1.length ≤ 140737488351232 ∧ ∀ s ∈ o.2.2.2.1, WfT s
set_option maxRecDepth 100000 in
theorem open_setD {fuel : Nat} {cs : List Value} {x : DataW H × List MemPlace} (h : DataW.trod enc Try.prog W 0 (fun _ => true) true fuel 84 cs = some x) (hw : Wt 84 x.1) : ∃ s, rSetD (fun _ => True) W s cs ∧ WfT s := by
  obtain ⟨xs, n, _, rfl, hl, hlen, hf⟩ := DataW.trod_struct Try.underlying84 h
  have hc : Try.prog.cellsOf 84 = 5 := by kernel_rfl
  have c9 : Try.prog.cellsOf 9 = 1 := by kernel_rfl
  have cn : Try.prog.cellsOf 78 = 4 := by kernel_rfl
  rw [hc] at hl
  have f0 : DataW.trod enc Try.prog W 0 (fun _ => true) true n 9 ((cs.drop 0).take (Try.prog.cellsOf 9)) = xs[0]? := hf 0 _ rfl
  have f1 : DataW.trod enc Try.prog W 0 (fun _ => true) true n 78 ((cs.drop 1).take (Try.prog.cellsOf 78)) = xs[1]? := hf 1 _ rfl
  rw [c9] at f0
  rw [cn] at f1
  match cs, hl, xs, hlen with
  | [a, b, c, e, g], _, [y0, y1], _ =>
    have w0 := hw.field Try.underlying84 0 rfl rfl rfl
    simp only [List.drop_zero, List.take_succ_cons, List.take_zero, List.drop_succ_cons, List.getElem?_cons_zero, List.getElem?_cons_succ] at f0 f1
    obtain ⟨s, e0, rfl, _⟩ := DataW.trod_string Try.underlying9 f0
    obtain ⟨x, c0, c1, c2, c3, e1, hr⟩ := open_node1 f1
    simp only [List.cons.injEq, and_true] at e0 e1
    obtain ⟨q0, q1, q2, q3⟩ := e1
    subst e0 q0 q1 q2 q3
    refine ⟨(s.data.toList, x), ⟨_, _, _, _, ?_, hr⟩, ?_⟩
    · rw [← sD_of]
    · have := str_wt w0
      simpa [WfT] using this
set_option maxRecDepth 100000 in
theorem open_onD {fuel : Nat} {cs : List Value} {x : DataW H × List MemPlace} (h : DataW.trod enc Try.prog W 0 (fun _ => true) true fuel 81 cs = some x) (hw : Wt 81 x.1) : ∃ o, rOnD (fun _ => True) W o cs ∧ WfO o := by
  obtain ⟨xs, n, _, rfl, hl, hlen, hf⟩ := DataW.trod_struct Try.underlying81 h
  have hc : Try.prog.cellsOf 81 = 10 := by kernel_rfl
  have c9 : Try.prog.cellsOf 9 = 1 := by kernel_rfl
  have c4 : Try.prog.cellsOf 4 = 1 := by kernel_rfl
  have cn : Try.prog.cellsOf 78 = 4 := by kernel_rfl
  have cs1 : Try.prog.cellsOf 79 = 1 := by kernel_rfl
  have cp : Try.prog.cellsOf 23 = 2 := by kernel_rfl
  have c5 : Try.prog.cellsOf 84 = 5 := by kernel_rfl
  rw [hc] at hl
  have f0 : DataW.trod enc Try.prog W 0 (fun _ => true) true n 9 ((cs.drop 0).take (Try.prog.cellsOf 9)) = xs[0]? := hf 0 _ rfl
  have f1 : DataW.trod enc Try.prog W 0 (fun _ => true) true n 4 ((cs.drop 1).take (Try.prog.cellsOf 4)) = xs[1]? := hf 1 _ rfl
  have f2 : DataW.trod enc Try.prog W 0 (fun _ => true) true n 78 ((cs.drop 2).take (Try.prog.cellsOf 78)) = xs[2]? := hf 2 _ rfl
  have f3 : DataW.trod enc Try.prog W 0 (fun _ => true) true n 9 ((cs.drop 6).take (Try.prog.cellsOf 9)) = xs[3]? := hf 3 _ rfl
  have f4 : DataW.trod enc Try.prog W 0 (fun _ => true) true n 79 ((cs.drop 7).take (Try.prog.cellsOf 79)) = xs[4]? := hf 4 _ rfl
  have f5 : DataW.trod enc Try.prog W 0 (fun _ => true) true n 23 ((cs.drop 8).take (Try.prog.cellsOf 23)) = xs[5]? := hf 5 _ rfl
  rw [c9] at f0 f3
  rw [c4] at f1
  rw [cn] at f2
  rw [cs1] at f4
  rw [cp] at f5
  match cs, hl, xs, hlen with
  | [a0, a1, a2, a3, a4, a5, a6, a7, a8, a9], _, [y0, y1, y2, y3, y4, y5], _ =>
    have w0 := hw.field Try.underlying81 0 rfl rfl rfl
    have w3 := hw.field Try.underlying81 3 rfl rfl rfl
    have w4 := hw.field Try.underlying81 4 rfl rfl rfl
    simp only [List.drop_zero, List.take_succ_cons, List.take_zero, List.drop_succ_cons, List.getElem?_cons_zero, List.getElem?_cons_succ] at f0 f1 f2 f3 f4 f5
    obtain ⟨ev, e0, rfl, _⟩ := DataW.trod_string Try.underlying9 f0
    obtain ⟨hs, e1, _⟩ := DataW.trod_bool Try.underlying4 f1
    obtain ⟨gx, c0, c1, c2, c3, e2, hr⟩ := open_node1 f2
    obtain ⟨tg, e3, rfl, _⟩ := DataW.trod_string Try.underlying9 f3
    obtain ⟨l, sl, e4, hsl, hsn⟩ := open_row (k := 5) (R := fun s cs => rSetD (fun _ => True) W s cs ∧ WfT s) Try.underlying79 c5 (by decide) (by kernel_rfl) f4 w4 (fun n' cs' y _ hy hwy => open_setD hy hwy)
    obtain ⟨p, e5⟩ := open_pos f5
    simp only [List.cons.injEq, and_true] at e0 e1 e2 e3 e4 e5
    obtain ⟨q0, q1, q2, q3⟩ := e2
    obtain ⟨q4, q5⟩ := e5
    subst e0 e1 q0 q1 q2 q3 e3 e4 q4 q5
    obtain ⟨hsl, hwt⟩ := hsl.both
    refine ⟨(ev.data.toList, (hs, gx), tg.data.toList, l, p), ⟨_, _, _, _, _, ?_, hr, hsl⟩, ?_, ?_, hsn, hwt⟩
    · rw [← sD_of, ← sD_of]
    · have := str_wt w0
      simpa using this
    · have := str_wt w3
      simpa using this
def WfS : (d : Nat) → St d → Prop
  | 0, t => Empty.elim t
  | d + 1, t => WfI t.1.2.2.2.1.1 ∧ WfI t.1.2.2.2.1.2 ∧ (t.1.1.1.length ≤ 140737488351232 ∧ t.1.2.2.1.1.length ≤ 140737488351232 ∧ t.1.2.2.1.2.length ≤ 140737488351232 ∧ t.1.2.2.2.2.length ≤ 140737488351232 ∧ ∀ o ∈ t.1.2.2.2.2, WfO o) ∧ t.2.length ≤ 140737488351232 ∧ ∀ x ∈ t.2, WfS d x
set_option maxRecDepth 100000 in
theorem open_stD : ∀ (m fuel : Nat), fuel ≤ m → ∀ {cs : List Value} {x : DataW H × List MemPlace}, DataW.trod enc Try.prog W 0 (fun _ => true) true fuel 52 cs = some x → Wt 52 x.1 → ∃ t, rStD (fuel / 2) (fun _ => True) W t cs ∧ WfS (fuel / 2) t
  | 0, fuel, hf, cs, x, h, _ => by
    obtain rfl : fuel = 0 := by omega
    simp [DataW.trod] at h
  | m + 1, fuel, hf, cs, x, h, hw => by
    obtain ⟨xs, n, rfl, rfl, hl, hlen, hf'⟩ := DataW.trod_struct Try.underlying52 h
    have hc : Try.prog.cellsOf 52 = 11 := by kernel_rfl
    have c9 : Try.prog.cellsOf 9 = 1 := by kernel_rfl
    have c4 : Try.prog.cellsOf 4 = 1 := by kernel_rfl
    have c3 : Try.prog.cellsOf 3 = 1 := by kernel_rfl
    have cp : Try.prog.cellsOf 23 = 2 := by kernel_rfl
    have co : Try.prog.cellsOf 50 = 1 := by kernel_rfl
    have cst : Try.prog.cellsOf 25 = 1 := by kernel_rfl
    have c10 : Try.prog.cellsOf 81 = 10 := by kernel_rfl
    rw [hc] at hl
    have f0 : DataW.trod enc Try.prog W 0 (fun _ => true) true n 9 ((cs.drop 0).take (Try.prog.cellsOf 9)) = xs[0]? := hf' 0 _ rfl
    have f1 : DataW.trod enc Try.prog W 0 (fun _ => true) true n 23 ((cs.drop 1).take (Try.prog.cellsOf 23)) = xs[1]? := hf' 1 _ rfl
    have f2 : DataW.trod enc Try.prog W 0 (fun _ => true) true n 4 ((cs.drop 3).take (Try.prog.cellsOf 4)) = xs[2]? := hf' 2 _ rfl
    have f3 : DataW.trod enc Try.prog W 0 (fun _ => true) true n 4 ((cs.drop 4).take (Try.prog.cellsOf 4)) = xs[3]? := hf' 3 _ rfl
    have f4 : DataW.trod enc Try.prog W 0 (fun _ => true) true n 9 ((cs.drop 5).take (Try.prog.cellsOf 9)) = xs[4]? := hf' 4 _ rfl
    have f5 : DataW.trod enc Try.prog W 0 (fun _ => true) true n 9 ((cs.drop 6).take (Try.prog.cellsOf 9)) = xs[5]? := hf' 5 _ rfl
    have f6 : DataW.trod enc Try.prog W 0 (fun _ => true) true n 3 ((cs.drop 7).take (Try.prog.cellsOf 3)) = xs[6]? := hf' 6 _ rfl
    have f7 : DataW.trod enc Try.prog W 0 (fun _ => true) true n 3 ((cs.drop 8).take (Try.prog.cellsOf 3)) = xs[7]? := hf' 7 _ rfl
    have f8 : DataW.trod enc Try.prog W 0 (fun _ => true) true n 50 ((cs.drop 9).take (Try.prog.cellsOf 50)) = xs[8]? := hf' 8 _ rfl
    have f9 : DataW.trod enc Try.prog W 0 (fun _ => true) true n 25 ((cs.drop 10).take (Try.prog.cellsOf 25)) = xs[9]? := hf' 9 _ rfl
    rw [c9] at f0 f4 f5
    rw [c4] at f2 f3
    rw [c3] at f6 f7
    rw [cp] at f1
    rw [co] at f8
    rw [cst] at f9
    match cs, hl, xs, hlen with
    | [a0, a1, a2, a3, a4, a5, a6, a7, a8, a9, a10], _, [y0, y1, y2, y3, y4, y5, y6, y7, y8, y9], _ =>
      have w0 := hw.field Try.underlying52 0 rfl rfl rfl
      have w4 := hw.field Try.underlying52 4 rfl rfl rfl
      have w5 := hw.field Try.underlying52 5 rfl rfl rfl
      have w8 := hw.field Try.underlying52 8 rfl rfl rfl
      have w9 := hw.field Try.underlying52 9 rfl rfl rfl
      simp only [List.drop_zero, List.take_succ_cons, List.take_zero, List.drop_succ_cons, List.getElem?_cons_zero, List.getElem?_cons_succ] at f0 f1 f2 f3 f4 f5 f6 f7 f8 f9
      obtain ⟨nm, e0, rfl, _⟩ := DataW.trod_string Try.underlying9 f0
      obtain ⟨p, e1⟩ := open_pos f1
      obtain ⟨al, e2, _⟩ := DataW.trod_bool Try.underlying4 f2
      obtain ⟨en, e3, _⟩ := DataW.trod_bool Try.underlying4 f3
      obtain ⟨dd, e4, rfl, _⟩ := DataW.trod_string Try.underlying9 f4
      obtain ⟨ud, e5, rfl, _⟩ := DataW.trod_string Try.underlying9 f5
      obtain ⟨wh, e6, _, g6⟩ := DataW.trod_int Try.underlying3 f6
      obtain ⟨rt, e7, _, g7⟩ := DataW.trod_int Try.underlying3 f7
      obtain ⟨ol, so, e8, hso, hon⟩ := open_row (k := 10) (R := fun o cs => rOnD (fun _ => True) W o cs ∧ WfO o) Try.underlying50 c10 (by decide) (by kernel_rfl) f8 w8 (fun n' cs' y _ hy hwy => open_onD hy hwy)
      obtain ⟨g, rfl⟩ : ∃ g, n = g + 1 := by
        cases n with
        | zero => simp [DataW.trod] at f9
        | succ g => exact ⟨g, rfl⟩
      obtain ⟨il, si, e9, hsi, hin⟩ := open_row (k := 11) (R := fun t cs => rStD (g / 2) (fun _ => True) W t cs ∧ WfS (g / 2) t) Try.underlying25 hc (by decide) (by kernel_rfl) f9 w9 (fun n' cs' y hn' hy hwy => by
        obtain rfl : n' = g := by omega
        exact open_stD m n' (by omega) hy hwy)
      simp only [List.cons.injEq, and_true] at e0 e1 e2 e3 e4 e5 e6 e7 e8 e9
      obtain ⟨q0, q1⟩ := e1
      subst e0 q0 q1 e2 e3 e4 e5 e6 e7 e8 e9
      obtain ⟨hsi, hwf⟩ := hsi.both
      obtain ⟨hso, hwo⟩ := hso.both
      rw [half2 g]
      refine ⟨(((nm.data.toList, p), (al, en), (dd.data.toList, ud.data.toList), (wh, rt), ol), il), ⟨_, _, ?_, hso, hsi⟩, g6, g7, ⟨?_, ?_, ?_, hon, hwo⟩, hin, hwf⟩
      · show _ = [sD nm.data.toList, _, _, _, _, sD dd.data.toList, sD ud.data.toList, _, _, _, _]
        rw [← sD_of, ← sD_of, ← sD_of]
      · have := str_wt w0
        simpa using this
      · have := str_wt w4
        simpa using this
      · have := str_wt w5
        simpa using this
def WfC (d : Nat) (c : ChD d) : Prop := WfI c.2.1 ∧ (∀ x ∈ c.2.2.1, WfV x) ∧ c.2.2.2.length ≤ 140737488351232 ∧ ∀ t ∈ c.2.2.2, WfS d t
set_option maxRecDepth 100000 in
theorem open_chD {fuel : Nat} {cs : List Value} {x : DataW H × List MemPlace} (h : DataW.trod enc Try.prog W 0 (fun _ => true) true fuel 27 cs = some x) (hw : Wt 27 x.1) : ∃ (d : Nat) (c : ChD d) (v0 v1 v2 v3 v4 v5 : Value), cs = [v0, v1, v2, v3, v4, v5] ∧ RdD (fun _ => True) W d c (.agg #[v0, v1, v2, v3, v4, v5]) ∧ WfC d c := by
  obtain ⟨xs, n, _, rfl, hl, hlen, hf'⟩ := DataW.trod_struct Try.underlying27 h
  have hc : Try.prog.cellsOf 27 = 6 := by kernel_rfl
  have c9 : Try.prog.cellsOf 9 = 1 := by kernel_rfl
  have c3 : Try.prog.cellsOf 3 = 1 := by kernel_rfl
  have cp : Try.prog.cellsOf 23 = 2 := by kernel_rfl
  have cv : Try.prog.cellsOf 24 = 1 := by kernel_rfl
  have cst : Try.prog.cellsOf 25 = 1 := by kernel_rfl
  have c4 : Try.prog.cellsOf 70 = 4 := by kernel_rfl
  have c11 : Try.prog.cellsOf 52 = 11 := by kernel_rfl
  rw [hc] at hl
  have f0 : DataW.trod enc Try.prog W 0 (fun _ => true) true n 9 ((cs.drop 0).take (Try.prog.cellsOf 9)) = xs[0]? := hf' 0 _ rfl
  have f1 : DataW.trod enc Try.prog W 0 (fun _ => true) true n 3 ((cs.drop 1).take (Try.prog.cellsOf 3)) = xs[1]? := hf' 1 _ rfl
  have f2 : DataW.trod enc Try.prog W 0 (fun _ => true) true n 23 ((cs.drop 2).take (Try.prog.cellsOf 23)) = xs[2]? := hf' 2 _ rfl
  have f3 : DataW.trod enc Try.prog W 0 (fun _ => true) true n 24 ((cs.drop 4).take (Try.prog.cellsOf 24)) = xs[3]? := hf' 3 _ rfl
  have f4 : DataW.trod enc Try.prog W 0 (fun _ => true) true n 25 ((cs.drop 5).take (Try.prog.cellsOf 25)) = xs[4]? := hf' 4 _ rfl
  rw [c9] at f0
  rw [c3] at f1
  rw [cp] at f2
  rw [cv] at f3
  rw [cst] at f4
  match cs, hl, xs, hlen with
  | [a0, a1, a2, a3, a4, a5], _, [y0, y1, y2, y3, y4], _ =>
    have w3 := hw.field Try.underlying27 3 rfl rfl rfl
    have w4 := hw.field Try.underlying27 4 rfl rfl rfl
    simp only [List.drop_zero, List.take_succ_cons, List.take_zero, List.drop_succ_cons, List.getElem?_cons_zero, List.getElem?_cons_succ] at f0 f1 f2 f3 f4
    obtain ⟨nm, e0, _, _⟩ := DataW.trod_string Try.underlying9 f0
    obtain ⟨vn, e1, _, g1⟩ := DataW.trod_int Try.underlying3 f1
    obtain ⟨p, e2⟩ := open_pos f2
    obtain ⟨vl, sv, e3, hsv, hvn⟩ := open_row (k := 4) (R := fun v cs => rVarD (fun _ => True) W v cs ∧ WfV v) Try.underlying24 c4 (by decide) (by kernel_rfl) f3 w3 (fun n' cs' y _ hy hwy => open_varD hy hwy)
    obtain ⟨g, rfl⟩ : ∃ g, n = g + 1 := by
      cases n with
      | zero => simp [DataW.trod] at f4
      | succ g => exact ⟨g, rfl⟩
    obtain ⟨il, si, e4, hsi, hin⟩ := open_row (k := 11) (R := fun t cs => rStD (g / 2) (fun _ => True) W t cs ∧ WfS (g / 2) t) Try.underlying25 c11 (by decide) (by kernel_rfl) f4 w4 (fun n' cs' y hn' hy hwy => by
      obtain rfl : n' = g := by omega
      exact open_stD n' n' (Nat.le_refl _) hy hwy)
    simp only [List.cons.injEq, and_true] at e0 e1 e2 e3 e4
    obtain ⟨q0, q1⟩ := e2
    subst e0 e1 q0 q1 e3 e4
    obtain ⟨hsv, hwv⟩ := hsv.both
    obtain ⟨hsi, hwf⟩ := hsi.both
    refine ⟨g / 2, ((nm.data.toList, p), vn, vl, il), _, _, _, _, _, _, rfl, ⟨_, _, ?_, hsv, hsi⟩, g1, hwv, hin, hwf⟩
    rw [← sD_of]
end
/-- A chart that came in. -/
theorem open_chart {H : Type} {enc : TypeId × Value → H} {W : World} {v : Value} {x : DataW H} {p : List MemPlace} (hv : ∃ cs, v = .agg cs)
    (h : DataW.Trod enc Try.prog W 0 (fun _ => true) true 27 v x p) (hw : Wt 27 x) : ∃ (d : Nat) (c : ChD d), RdD (fun _ => True) W d c v ∧ WfC d c := by
  obtain ⟨cs, rfl⟩ := hv
  obtain ⟨fuel, hf⟩ := h
  obtain ⟨d, c, c0, c1, c2, c3, c4, c5, hcs, hr, hwf⟩ := open_chD hf hw
  refine ⟨d, c, ?_, hwf⟩
  have e : cs = #[c0, c1, c2, c3, c4, c5] := by
    have : cs.toList = [c0, c1, c2, c3, c4, c5] := hcs
    exact Array.toList_inj.1 (by rw [this])
  rw [e]
  exact hr
end Go.Proofs.Ytoankfbccofllaa

/- What the document's small and Small do. -/
namespace Go.Proofs.Ytoankfbccofllaa
open Go.RowKit
set_option linter.unusedSimpArgs false
set_option linter.unusedVariables false

theorem thru_cons {α : Type} (g : α → Int → Int) (p : α) (r : List α) (x : Int) : thru g (p :: r) x = if g p x < 0 then -1 else thru g r (g p x) := rfl

/-- What small answers of trees so deep. -/
def SmallC (d : Nat) : Prop := ∀ (ok : Nat → Prop) (t : T d) (v : Value) (w : World) (dep : Nat) (left : Int), RdT ok w d t v → dep ≤ 61 → -1 ≤ left → left ≤ 200 →
    Calls Try.prog 35 #[v, .int .i64 (dep : Int), .int .i64 left] w fun e w' => e = .returned (.int .i64 (sml d t dep left)) ∧ Below w.heap.size w w'
set_option maxRecDepth 100000 in
set_option maxHeartbeats 1000000 in
theorem refSmall_step (d : Nat) (IH : SmallC d) : SmallC (d + 1) := by
  intro ok t v w dep left h hdep hl0 hl1
  obtain ⟨k, n, s, ps, rfl⟩ := T.open t
  obtain ⟨sl, rfl, hp⟩ := rdT_mk.1 h
  obtain ⟨a, cap, rfl, hlc, hcm, hcell⟩ := hp.form
  rw [sml_mk]
  by_cases c1 : 60 < dep
  · rw [if_pos (.inl c1)]
    have e1 : (dep : Int) > 60 := by omega
    clear IH hcell h hp
    go_enter Try.func35, Try.ntmps35
    go_wp2
    go_ret
    exact ⟨rfl, (Below.refl _ _).alloc (Nat.le_refl _) _⟩
  have e1 : ¬ (dep : Int) > 60 := by omega
  by_cases c2 : left - 1 < 0
  · rw [if_pos (.inr (.inl c2))]
    clear IH hcell h hp
    go_enter Try.func35, Try.ntmps35
    go_wp2
    go_ret
    exact ⟨rfl, (Below.refl _ _).alloc (Nat.le_refl _) _⟩
  by_cases c3 : 1000 < s.size
  · rw [if_pos (.inr (.inr c3))]
    have e3 : (s.size : Int) > 1000 := by omega
    clear IH hcell h hp
    go_enter Try.func35, Try.ntmps35
    go_wp2
    go_ret
    exact ⟨rfl, (Below.refl _ _).alloc (Nat.le_refl _) _⟩
  rw [if_neg (by omega)]
  have e3 : ¬ (s.size : Int) > 1000 := by omega
  obtain ⟨V, hV⟩ : ∃ V, thru (fun p x => sml d p (dep + 1) x) ps (left - 1) = V := ⟨_, rfl⟩
  rw [hV]
  have HV : Hid (thru (fun p x => sml d p (dep + 1) x) (ps.drop 0) (left - 1) = V) := hV
  have HC : Hid (∀ (i : Nat) (hi : i < ps.length), ∃ b off c0 c1 c2 c3, a = some ⟨b, off, none⟩ ∧ b < w.heap.size ∧ RdT ok w d ps[i] (.agg #[c0, c1, c2, c3]) ∧ w.cell? ⟨b, off + i * 4, none⟩ = some c0 ∧ w.cell? ⟨b, off + i * 4 + 1, none⟩ = some c1 ∧ w.cell? ⟨b, off + i * 4 + 2, none⟩ = some c2 ∧ w.cell? ⟨b, off + i * 4 + 3, none⟩ = some c3) := hcell
  clear hV hcell h hp
  go_enter Try.func35, Try.ntmps35
  go_wp2
  go_loopw [2, 25] (fun l i wr => ∃ (j : Nat) (L : Int), j ≤ ps.length ∧ i = .int .i64 (j : Int) ∧ l = .int .i64 L ∧ 0 ≤ L ∧ L ≤ 199 ∧ Hid (thru (fun p x => sml d p (dep + 1) x) (ps.drop j) L = V) ∧ At4 wr w.heap.size (.int .i64 k) (.int .i64 n) (.string s) (.slice a ps.length cap) ∧ Below w.heap.size w wr) (fun _ i _ => ps.length - (RowKit.intOf i).toNat)
  case atStart => exact ⟨0, left - 1, Nat.zero_le _, rfl, rfl, by omega, by omega, HV, At4.new _ _ _ _ _ _, (Below.refl _ _).alloc (Nat.le_refl _) _⟩
  case round =>
    obtain ⟨j, L, hj, rfl, rfl, hL0, hL1, hT, hA, hb⟩ := hrel
    obtain ⟨y0, y1, y2, y3⟩ := id hA
    by_cases hlt : j < ps.length
    · obtain ⟨b, off, c0, c1, c2, c3, rfl, hbl, hr, k0, k1, k2, k3⟩ := HC.out j hlt
      have C0 := (hb.cell (p := ⟨b, off + j * 4, none⟩) hbl).trans k0
      have C1 := (hb.cell (p := ⟨b, off + j * 4 + 1, none⟩) hbl).trans k1
      have C2 := (hb.cell (p := ⟨b, off + j * 4 + 2, none⟩) hbl).trans k2
      have C3 := (hb.cell (p := ⟨b, off + j * 4 + 3, none⟩) hbl).trans k3
      have hcall := IH ok ps[j] _ wr (dep + 1) L (RdT.below hb (Nat.le_refl _) hr) (by omega) (by omega) (by omega)
      have hTT := hT.out
      rw [List.drop_eq_getElem_cons hlt, thru_cons] at hTT
      have hok := sml_ok d ps[j] (dep + 1) L
      have hcp := cnt_pos d ps[j]
      obtain ⟨z, hz⟩ : ∃ z, sml d ps[j] (dep + 1) L = z := ⟨_, rfl⟩
      rw [hz] at hcall hTT hok
      have i1 : (j : Int) < (ps.length : Int) := by omega
      have i2 : (0 : Int) ≤ (j : Int) := by omega
      have hd1 : ((dep + 1 : Nat) : Int) = (dep : Int) + 1 := by omega
      rw [hd1] at hcall
      clear k0 k1 k2 k3 hr hbl
      by_cases hzn : z < 0
      · rw [if_pos hzn] at hTT
        subst hTT
        clear hok hz hd1
        go_wp2_with (first
          | (go_at_call 35; refine hcall.mono ?_; rintro e w1 ⟨rfl, b1⟩))
        go_ret
        exact ⟨rfl, hb.trans (b1.mono hb.size)⟩
      · rw [if_neg hzn] at hTT
        have hzL : z ≤ L := by have := (hok (by omega)).1; omega
        have hN : Hid (thru (fun p x => sml d p (dep + 1) x) (ps.drop (j + 1)) z = V) := hTT
        clear hok hz hTT hd1 hcp
        go_wp2_with (first
          | (go_at_call 35; refine hcall.mono ?_; rintro e w1 ⟨rfl, b1⟩))
        go_roundw
        case rel => exact ⟨j + 1, z, hlt, by go_num, rfl, by omega, by omega, hN, hA.keepB b1 (World.block_lt_of_cell? wr _ y0), hb.trans (b1.mono hb.size)⟩
        case measure => simp [RowKit.intOf]; omega
    · have i1 : ¬ (j : Int) < (ps.length : Int) := by omega
      have hTT := hT.out
      rw [List.drop_eq_nil_of_le (by omega)] at hTT
      have hTe : L = V := hTT
      subst hTe
      clear hTT
      go_wp2
      go_ret
      exact ⟨rfl, hb⟩

theorem refSmall_any : ∀ (d : Nat), SmallC d
  | 0 => fun _ t => Empty.elim t
  | d + 1 => refSmall_step d (refSmall_any d)

theorem refSmallTop_any {ok : Nat → Prop} {d : Nat} {t : T d} {v : Value} {w : World} (h : RdT ok w d t v) :
    Calls Try.prog 29 #[v] w fun e w' => e = .returned (.bool (decide (0 ≤ sml d t 0 200))) ∧ Below w.heap.size w w' := by
  match d, t, h with
  | 0, t, h => exact Empty.elim t
  | d + 1, t, h =>
    obtain ⟨k, n, s, ps, rfl⟩ := T.open t
    have h0 := h
    obtain ⟨sl, rfl, hp⟩ := rdT_mk.1 h
    have hb0 := (Below.refl w.heap.size w).alloc (Nat.le_refl _) (.cells #[.int .i64 k, .int .i64 n, .string s, sl] 78)
    have hcall := refSmall_any (d + 1) ok (mkT k n s ps) _ _ 0 200 (RdT.below hb0 (Nat.le_refl _) h0) (by omega) (by omega) (by omega)
    obtain ⟨z, hz⟩ : ∃ z, sml (d + 1) (mkT k n s ps) 0 200 = z := ⟨_, rfl⟩
    rw [hz] at hcall ⊢
    clear hz h0 hp
    go_enter Try.func29, Try.ntmps29
    go_wp2_with (first
      | (go_at_call 35; refine hcall.mono ?_; rintro e w1 ⟨rfl, b1⟩))
    all_goals go_ret
    all_goals exact ⟨by simp [*], hb0.trans (b1.mono hb0.size)⟩
end Go.Proofs.Ytoankfbccofllaa

/- What the document's state does. -/
namespace Go.Proofs.Ytoankfbccofllaa
open Go.RowKit Go.Lib
set_option linter.unusedSimpArgs false
set_option linter.unusedVariables false
attribute [local go_sem ↓] Go.wp_at_zero Go.wp_at_succ

def er0 (w : World) (X : Nat) : Nat := match w.cell? ⟨X, 5, none⟩ with | some (.int _ n) => (if n = 0 then 1 else 0) | _ => 0
theorem DR.er {w : World} {X : Nat} {fin : Pl} {r : RsC} (h : DR w X fin r) : er0 w X = if r.2.2 = 0 then 1 else 0 := by
  obtain ⟨a, cap, h⟩ := h
  unfold er0
  rw [(h.b 5 _ rfl).1]
theorem DR.c5 {w : World} {X : Nat} {fin : Pl} {r : RsC} (h : DR w X fin r) : w.cell? ⟨X, 5, none⟩ = some (.int .i64 r.2.2) := by
  obtain ⟨a, cap, h⟩ := h
  exact (h.b 5 _ rfl).1

end Go.Proofs.Ytoankfbccofllaa

/- The walk of the document's first. -/
namespace Go.Proofs.Ytoankfbccofllaa
open Go.RowKit Go.Lib
set_option linter.unusedSimpArgs false
set_option linter.unusedVariables false


end Go.Proofs.Ytoankfbccofllaa

/- What the document's Words does. -/
namespace Go.Proofs.Ytoankfbccofllaa
open Go.RowKit Go.Lib
set_option linter.unusedSimpArgs false
set_option linter.unusedVariables false
attribute [local go_sem ↓] Go.wp_at_zero Go.wp_at_succ


/-- The reader in block X stands where r does. -/
def Pr (w : World) (X : Nat) (a : Option Addr) (cap : Nat) (ws : List Wd) (fin : Pl) (r : RsC) : Prop :=
  ∃ n, Rr w X a cap ws n r.2.2 ∧ r.1 = ws.drop n ∧ n ≤ ws.length ∧ (r.2.2 ≠ 0 → r.2.1 = hereR fin r)
theorem Pr.lt {w : World} {X : Nat} {a : Option Addr} {cap : Nat} {ws : List Wd} {fin : Pl} {r : RsC} (h : Pr w X a cap ws fin r) : X < w.heap.size := by
  obtain ⟨n, h, _⟩ := h
  exact h.lt
theorem Pr.on {w w' : World} {X : Nat} {a : Option Addr} {cap : Nat} {ws : List Wd} {fin : Pl} {r : RsC} (h : Pr w X a cap ws fin r) (hb : Below w.heap.size w w') : Pr w' X a cap ws fin r := by
  obtain ⟨n, h1, h2, h3, h4⟩ := h
  exact ⟨n, h1.on hb, h2, h3, h4⟩
theorem Pr.far {w : World} {X Y i : Nat} {a : Option Addr} {cap : Nat} {ws : List Wd} {fin : Pl} {r : RsC} (h : Pr w X a cap ws fin r) (hY : X < Y) (u : Value) : Pr (w.setCell ⟨Y, i, none⟩ u) X a cap ws fin r := by
  obtain ⟨n, h1, h2, h3, h4⟩ := h
  exact ⟨n, h1.far hY u, h2, h3, h4⟩
theorem drop_cons {ws : List Wd} {n : Nat} {x : Wd} {l : List Wd} (h : x :: l = ws.drop n) : n < ws.length ∧ l = ws.drop (n + 1) ∧ ∀ hn : n < ws.length, ws[n] = x := by
  have hn : n < ws.length := by
    rcases Nat.lt_or_ge n ws.length with h' | h'
    · exact h'
    · rw [List.drop_eq_nil_of_le h'] at h; cases h
  rw [List.drop_eq_getElem_cons hn] at h
  injection h with h1 h2
  exact ⟨hn, h2, fun _ => h1.symm⟩
/-- A fault is kept. -/
theorem Pr.bad {w : World} {X n : Nat} {a : Option Addr} {cap : Nat} {ws : List Wd} {fin : Pl} {r : RsC} {e : Int} (h : Rr w X a cap ws n (if r.2.2 = 0 then e else r.2.2)) (h1 : r.1 = ws.drop n) (h2 : n ≤ ws.length) (h3 : r.2.2 ≠ 0 → r.2.1 = hereR fin r) : Pr w X a cap ws fin (failC e (hereR fin r) r) := by
  unfold failC
  by_cases h0 : r.2.2 = 0
  · rw [if_pos h0] at h ⊢
    exact ⟨n, h, h1, h2, fun _ => rfl⟩
  · rw [if_neg h0] at h ⊢
    exact ⟨n, h, h1, h2, h3⟩
/-- A word is taken. -/
theorem Pr.step {w : World} {X n : Nat} {a : Option Addr} {cap : Nat} {ws : List Wd} {fin : Pl} {r : RsC} {x : Wd} {l : List Wd} (h : Rr w X a cap ws (n + 1) r.2.2) (h1 : x :: l = ws.drop n) (h0 : r.2.2 = 0) : Pr w X a cap ws fin (l, r.2) := by
  obtain ⟨hn, hl, _⟩ := drop_cons h1
  exact ⟨n + 1, h, hl, hn, fun e => absurd h0 e⟩

end Go.Proofs.Ytoankfbccofllaa

/- Nothing of it is needed here. -/
namespace Go.Proofs.Ytoankfbccofllaa
end Go.Proofs.Ytoankfbccofllaa

/- What the program's word, name and number do. -/
namespace Go.Proofs.Ytoankfbccofllaa
open Go.RowKit Go.Lib
set_option linter.unusedSimpArgs false
set_option linter.unusedVariables false
attribute [local go_sem ↓] Go.wp_at_zero Go.wp_at_succ

theorem Rr.put4 {w : World} {X N : Nat} {a : Option Addr} {cap : Nat} {ws : List Wd} {n : Nat} {b : Int} (h : Rr w X a cap ws n b) (hN : X < N) (c0 c1 c2 c3 : Value) : Rr (put4 w N c0 c1 c2 c3) X a cap ws n b := (((h.far hN c0).far hN c1).far hN c2).far hN c3

theorem Pr.word {w : World} {X : Nat} {a : Option Addr} {cap : Nat} {ws : List Wd} {fin : Pl} {r : RsC} (h : Pr w X a cap ws fin r) (hk : Wk ws cap) {x : Wd} {l : List Wd} (hr : r.1 = x :: l) : OneW x.1 x.2.1 := by
  obtain ⟨n, _, h2, _⟩ := h
  rw [hr] at h2
  obtain ⟨hn, _, hx⟩ := drop_cons h2
  rw [← hx hn]
  exact hk.o _ (List.getElem_mem hn)





/-- Where the reader stands. -/
def nxt (w : World) (X : Nat) : Nat := match w.cell? ⟨X, 1, none⟩ with | some (.int _ n) => n.toNat | _ => 0
theorem Pr.left {w : World} {X : Nat} {a : Option Addr} {cap : Nat} {ws : List Wd} {fin : Pl} {r : RsC} (h : Pr w X a cap ws fin r) : ws.length - nxt w X = r.1.length := by
  obtain ⟨n, h1, h2, h3, _⟩ := h
  unfold nxt
  rw [h1.c1, h2, List.length_drop]
  rfl
theorem Pr.len {w : World} {X : Nat} {a : Option Addr} {cap : Nat} {ws : List Wd} {fin : Pl} {r : RsC} (h : Pr w X a cap ws fin r) : r.1.length ≤ ws.length := by
  obtain ⟨n, h1, h2, h3, _⟩ := h
  rw [h2, List.length_drop]
  omega
theorem Rr.keepB {w w' : World} {X B : Nat} {a : Option Addr} {cap : Nat} {ws : List Wd} {n : Nat} {b : Int} (h : Rr w X a cap ws n b) (hb : Below B w w') (hX : X < B) : Rr w' X a cap ws n b := by
  have hc : ∀ i, w'.cell? ⟨X, i, none⟩ = w.cell? ⟨X, i, none⟩ := fun i => hb.cell (p := ⟨X, i, none⟩) hX
  have hf : ∀ i, w'.frozen? ⟨X, i, none⟩ = w.frozen? ⟨X, i, none⟩ := fun i => hb.frozen (p := ⟨X, i, none⟩) hX
  refine ⟨(hc 0).trans h.c0, (hc 1).trans h.c1, (hc 2).trans h.c2, (hf 1).trans h.f1, (hf 2).trans h.f2, fun i hi => ?_⟩
  obtain ⟨g, off, h1, h2, d0, d1, d2, d3⟩ := h.l i hi
  have hg : g < B := Nat.lt_trans h2 hX
  exact ⟨g, off, h1, h2, (hb.cell (p := ⟨g, off + i * 4, none⟩) hg).trans d0, (hb.cell (p := ⟨g, off + i * 4 + 1, none⟩) hg).trans d1, (hb.cell (p := ⟨g, off + i * 4 + 2, none⟩) hg).trans d2, (hb.cell (p := ⟨g, off + i * 4 + 3, none⟩) hg).trans d3⟩
theorem Pr.belowB {w w' : World} {X B : Nat} {a : Option Addr} {cap : Nat} {ws : List Wd} {fin : Pl} {r : RsC} (h : Pr w X a cap ws fin r) (hb : Below B w w') (hX : X < B) : Pr w' X a cap ws fin r := by
  obtain ⟨n, h1, h2, h3, h4⟩ := h
  exact ⟨n, h1.keepB hb hX, h2, h3, h4⟩
theorem Try.infoSet : (Try.prog.info? 94).map (fun i => (i.zero, i.size, i.bytes)) = some (some (.agg #[.string ⟨#[]⟩, .nilIface]), 2, 32) := by kernel_rfl

def erq (w : World) (X : Nat) : Nat := match w.cell? ⟨X, 2, none⟩ with | some (.int _ n) => (if n = 0 then 1 else 0) | _ => 0
theorem Pr.erq {w : World} {X : Nat} {a : Option Addr} {cap : Nat} {ws : List Wd} {fin : Pl} {r : RsC} (h : Pr w X a cap ws fin r) : erq w X = if r.2.2 = 0 then 1 else 0 := by
  obtain ⟨n, h1, _⟩ := h
  unfold Go.Proofs.Ytoankfbccofllaa.erq
  rw [h1.c2]
theorem Fy.bel {X Y B : Nat} {a b : World} (h : Fy X Y a b) (hX : B ≤ X) (hY : B ≤ Y) (hB : B ≤ a.heap.size) : Below B a b := ⟨h.os, h.tape, h.output, h.size, fun k hk => h.block k (by omega) (by omega) (by omega)⟩

theorem Try.infoOn : (Try.prog.info? 91).map (fun i => (i.zero, i.size, i.bytes)) = some (some (.agg #[.string ⟨#[]⟩, .nilIface, .string ⟨#[]⟩, .slice none 0 0, .int .i64 0, .int .i64 0]), 6, 88) := by kernel_rfl
theorem Try.infoSt : (Try.prog.info? 45).map (fun i => (i.zero, i.size, i.bytes)) = some (some (.agg #[.string ⟨#[]⟩, .int .i64 0, .int .i64 0, .bool false, .bool false, .string ⟨#[]⟩, .string ⟨#[]⟩, .int .i64 0, .int .i64 0, .slice none 0 0, .slice none 0 0]), 11, 136) := by kernel_rfl

theorem Try.infoVar : (Try.prog.info? 69).map (fun i => (i.zero, i.size, i.bytes)) = some (some (.agg #[.string ⟨#[]⟩, .int .i64 0, .int .i64 0, .int .i64 0]), 4, 40) := by kernel_rfl

theorem Fx.bel {X B : Nat} {u a b : World} (h : Fx X a b) (hb : Below B u a) (hX : B ≤ X) (hB : B ≤ u.heap.size) : Below B u b :=
  ⟨h.os.trans hb.os, h.tape.trans hb.tape, h.output.trans hb.output, Nat.le_trans hb.size h.size, fun k hk => (h.block k (Nat.lt_of_lt_of_le hk (Nat.le_trans hB hb.size)) (fun e => by have : k = X := Option.some.inj e; omega)).trans (hb.block k hk)⟩
theorem below_st {B : Nat} {u w : World} (h : Below B u w) (X i : Nat) (v : Value) (hX : B ≤ X) : Below B u (w.setCell ⟨X, i, none⟩ v) := h.setCell hX v
end Go.Proofs.Ytoankfbccofllaa
