import Derived.Test.YtpblcahcpobicaaXmc01
import Derived.Test.YtpblcahcpobicaaRows
import Derived.Deep.AppendLies
import Derived.Lib.TrimUEq
import Derived.Lib.MapLaws
import Derived.Lib.ItoaNum
import Derived.BigQuiet
import Derived.Deep.QuietTactic
import Derived.BigRegion

/- Trees in memory. -/
namespace Go.Proofs.Ytpblcahcpobicaa
open Go.RowKit
set_option linter.unusedSimpArgs false
set_option linter.unusedVariables false

theorem add_plain (b off i : Nat) : (⟨b, off, none⟩ : Addr).add i = ⟨b, off + i, none⟩ := by unfold Addr.add; split <;> simp_all

/-- The slice v reads as the list l, four cells an element. -/
def RdP {α : Type} (ok : Nat → Prop) (w : World) (R : α → Value → Prop) (l : List α) (v : Value) : Prop :=
  ∃ a cap, v = .slice a l.length cap ∧ l.length ≤ cap ∧ cap ≤ maxLen ∧ (a = none → l = []) ∧
    ∀ x, a = some x → ∀ (i : Nat) (h : i < l.length), ok x.block ∧ ∃ c0 c1 c2 c3, R l[i] (.agg #[c0, c1, c2, c3]) ∧ w.cell? (x.add (i * 4)) = some c0 ∧ w.cell? (x.add (i * 4 + 1)) = some c1 ∧ w.cell? (x.add (i * 4 + 2)) = some c2 ∧ w.cell? (x.add (i * 4 + 3)) = some c3
/-- The value v reads as the tree t. -/
def RdT (ok : Nat → Prop) (w : World) : (d : Nat) → T d → Value → Prop
  | 0, t, _ => Empty.elim t
  | d + 1, t, v => ∃ sl, v = .agg #[.int .i64 (show Int × Int × ByteArray × List (T d) from t).1, .int .i64 (show Int × Int × ByteArray × List (T d) from t).2.1, .string (show Int × Int × ByteArray × List (T d) from t).2.2.1, sl] ∧ RdP ok w (RdT ok w d) (show Int × Int × ByteArray × List (T d) from t).2.2.2 sl
theorem keep_cell {w w' : World} {p : Addr} {u : Value} (h : w'.heap[p.block]? = w.heap[p.block]?) (hc : w.cell? p = some u) : w'.cell? p = some u := by
  unfold World.cell? at hc ⊢
  rw [h]
  exact hc
theorem add_block (x : Addr) (i : Nat) : (x.add i).block = x.block := by unfold Addr.add; split <;> rfl
/-- What is read stays where its blocks stay. -/
theorem RdP.keep {α : Type} {ok ok' : Nat → Prop} {w w' : World} {R R' : α → Value → Prop} {l : List α} {v : Value} (h : RdP ok w R l v) (hR : ∀ x ∈ l, ∀ u, R x u → R' x u) (hk : ∀ b, ok b → b < w.heap.size → ok' b ∧ w'.heap[b]? = w.heap[b]?) : RdP ok' w' R' l v := by
  obtain ⟨a, cap, rfl, hc, hm, hn, hcell⟩ := h
  refine ⟨a, cap, rfl, hc, hm, hn, fun x hx i hi => ?_⟩
  obtain ⟨ho, c0, c1, c2, c3, h0, h1, h2, h3, h4⟩ := hcell x hx i hi
  have hb : x.block < w.heap.size := by
    have := World.block_lt_of_cell? w _ h1
    rw [add_block] at this
    exact this
  obtain ⟨ho', hs⟩ := hk _ ho hb
  have kk : ∀ j u, w.cell? (x.add j) = some u → w'.cell? (x.add j) = some u := fun j u hu => keep_cell (by rw [add_block]; exact hs) hu
  exact ⟨ho', c0, c1, c2, c3, hR _ (List.getElem_mem hi) _ h0, kk _ _ h1, kk _ _ h2, kk _ _ h3, kk _ _ h4⟩
theorem RdT.keep {ok ok' : Nat → Prop} {w w' : World} (hk : ∀ b, ok b → b < w.heap.size → ok' b ∧ w'.heap[b]? = w.heap[b]?) : ∀ {d : Nat} {t : T d} {v : Value}, RdT ok w d t v → RdT ok' w' d t v
  | 0, t, v, h => Empty.elim t
  | d + 1, t, v, h => by
    obtain ⟨sl, hv, hp⟩ := h
    exact ⟨sl, hv, hp.keep (fun x _ u hu => RdT.keep hk hu) hk⟩
theorem RdT.below {ok : Nat → Prop} {w w' : World} {B : Nat} (hb : Below B w w') (hB : w.heap.size ≤ B) {d : Nat} {t : T d} {v : Value} (h : RdT ok w d t v) : RdT ok w' d t v :=
  RdT.keep (fun b ho hl => ⟨ho, hb.block b (by omega)⟩) h
theorem RdP.below {ok : Nat → Prop} {w w' : World} {d : Nat} {l : List (T d)} {v : Value} {B : Nat} (h : RdP ok w (RdT ok w d) l v) (hb : Below B w w') (hB : w.heap.size ≤ B) : RdP ok w' (RdT ok w' d) l v :=
  h.keep (fun x _ u hu => RdT.below hb hB hu) (fun b ho hl => ⟨ho, hb.block b (by omega)⟩)
/-- Where its elements lie. -/
theorem RdP.form {α : Type} {ok : Nat → Prop} {w : World} {R : α → Value → Prop} {l : List α} {v : Value} (h : RdP ok w R l v) : ∃ a cap, v = .slice a l.length cap ∧ l.length ≤ cap ∧ cap ≤ 9223372036854775807 ∧
    ∀ (i : Nat) (hi : i < l.length), ∃ b off c0 c1 c2 c3, a = some ⟨b, off, none⟩ ∧ b < w.heap.size ∧ R l[i] (.agg #[c0, c1, c2, c3]) ∧ w.cell? ⟨b, off + i * 4, none⟩ = some c0 ∧ w.cell? ⟨b, off + i * 4 + 1, none⟩ = some c1 ∧ w.cell? ⟨b, off + i * 4 + 2, none⟩ = some c2 ∧ w.cell? ⟨b, off + i * 4 + 3, none⟩ = some c3 := by
  obtain ⟨a, cap, rfl, hc, hm, hn, hcell⟩ := h
  refine ⟨a, cap, rfl, hc, by unfold maxLen at hm; omega, fun i hi => ?_⟩
  cases a with
  | none => have := hn rfl; subst this; simp at hi
  | some x =>
    obtain ⟨b, off, spot⟩ := x
    obtain ⟨_, c0, c1, c2, c3, h0, h1, h2, h3, h4⟩ := hcell _ rfl i hi
    obtain ⟨_, _, _, _, _, _, z1, _⟩ := hcell _ rfl 0 (by omega)
    have hspot : spot = none := by simpa [Addr.add] using World.cell?_spot z1
    subst hspot
    rw [add_plain] at h1 h2 h3 h4
    exact ⟨b, off, c0, c1, c2, c3, rfl, World.block_lt_of_cell? w _ h1, h0, h1, h2, h3, h4⟩

/-- A block of four cells, read alone. -/
def At4 (w : World) (X : Nat) (a b c e : Value) : Prop := w.cell? ⟨X, 0, none⟩ = some a ∧ w.cell? ⟨X, 1, none⟩ = some b ∧ w.cell? ⟨X, 2, none⟩ = some c ∧ w.cell? ⟨X, 3, none⟩ = some e
theorem At4.keepB {w w' : World} {X B : Nat} {a b c e : Value} (h : At4 w X a b c e) (hb : Below B w w') (hX : X < B) : At4 w' X a b c e := by
  refine ⟨?_, ?_, ?_, ?_⟩
  · rw [hb.cell (p := ⟨X, 0, none⟩) hX]; exact h.1
  · rw [hb.cell (p := ⟨X, 1, none⟩) hX]; exact h.2.1
  · rw [hb.cell (p := ⟨X, 2, none⟩) hX]; exact h.2.2.1
  · rw [hb.cell (p := ⟨X, 3, none⟩) hX]; exact h.2.2.2
theorem At4.new (w : World) (a b c e : Value) (T : TypeId) : At4 (w.alloc (.cells #[a, b, c, e] T)) w.heap.size a b c e := ⟨by simp, by simp, by simp, by simp⟩

/-- A block of four cells that may be written. -/
structure B4 (w : World) (X : Nat) (a b c e : Value) : Prop where
  c0 : w.cell? ⟨X, 0, none⟩ = some a
  c1 : w.cell? ⟨X, 1, none⟩ = some b
  c2 : w.cell? ⟨X, 2, none⟩ = some c
  c3 : w.cell? ⟨X, 3, none⟩ = some e
  f0 : w.frozen? ⟨X, 0, none⟩ = false
  f1 : w.frozen? ⟨X, 1, none⟩ = false
  f2 : w.frozen? ⟨X, 2, none⟩ = false
  f3 : w.frozen? ⟨X, 3, none⟩ = false
theorem B4.new (w : World) (a b c e : Value) (t : TypeId) (n : Nat) (hn : n = w.heap.size) : B4 (w.alloc (.cells #[a, b, c, e] t)) n a b c e := by
  subst hn
  exact ⟨by simp, by simp, by simp, by simp, by simp, by simp, by simp, by simp⟩
theorem B4.keepB {w w' : World} {X B : Nat} {a b c e : Value} (h : B4 w X a b c e) (hb : Below B w w') (hX : X < B) : B4 w' X a b c e := by
  have hc : ∀ i, w'.cell? ⟨X, i, none⟩ = w.cell? ⟨X, i, none⟩ := fun i => hb.cell (p := ⟨X, i, none⟩) hX
  have hf : ∀ i, w'.frozen? ⟨X, i, none⟩ = w.frozen? ⟨X, i, none⟩ := fun i => hb.frozen (p := ⟨X, i, none⟩) hX
  exact ⟨by rw [hc]; exact h.c0, by rw [hc]; exact h.c1, by rw [hc]; exact h.c2, by rw [hc]; exact h.c3, by rw [hf]; exact h.f0, by rw [hf]; exact h.f1, by rw [hf]; exact h.f2, by rw [hf]; exact h.f3⟩
theorem B4.lt {w : World} {X : Nat} {a b c e : Value} (h : B4 w X a b c e) : X < w.heap.size := World.block_lt_of_cell? w _ h.c0
theorem B4.keep {w w' : World} {X : Nat} {a b c e : Value} (h : B4 w X a b c e) (hb : Below w.heap.size w w') : B4 w' X a b c e := h.keepB hb h.lt
theorem cell_same4 {w : World} {p : Addr} {u v : Value} (h : w.cell? p = some u) : (w.setCell p v).cell? p = some v := World.cell?_setCell_same' w _ v (by rw [h]; rfl)
theorem cell_far4 {w : World} {X i Y j : Nat} {u v : Value} (hne : ¬ (X = Y ∧ i = j)) (h : w.cell? ⟨Y, j, none⟩ = some u) : (w.setCell ⟨X, i, none⟩ v).cell? ⟨Y, j, none⟩ = some u :=
  (World.cell?_setCell_other w ⟨X, i, none⟩ ⟨Y, j, none⟩ v (by simp; intro h1 h2; exact hne ⟨h1, h2⟩)).trans h
theorem B4.far {w : World} {X Y i : Nat} {a b c e : Value} (h : B4 w Y a b c e) (hne : X ≠ Y) (v : Value) : B4 (w.setCell ⟨X, i, none⟩ v) Y a b c e :=
  ⟨cell_far4 (by omega) h.c0, cell_far4 (by omega) h.c1, cell_far4 (by omega) h.c2, cell_far4 (by omega) h.c3, (World.frozen?_setCell _ _ _ _).trans h.f0, (World.frozen?_setCell _ _ _ _).trans h.f1, (World.frozen?_setCell _ _ _ _).trans h.f2, (World.frozen?_setCell _ _ _ _).trans h.f3⟩
theorem B4.set0 {w : World} {X : Nat} {a b c e : Value} (h : B4 w X a b c e) (v : Value) : B4 (w.setCell ⟨X, 0, none⟩ v) X v b c e :=
  ⟨cell_same4 h.c0, cell_far4 (by omega) h.c1, cell_far4 (by omega) h.c2, cell_far4 (by omega) h.c3, (World.frozen?_setCell _ _ _ _).trans h.f0, (World.frozen?_setCell _ _ _ _).trans h.f1, (World.frozen?_setCell _ _ _ _).trans h.f2, (World.frozen?_setCell _ _ _ _).trans h.f3⟩
theorem B4.set1 {w : World} {X : Nat} {a b c e : Value} (h : B4 w X a b c e) (v : Value) : B4 (w.setCell ⟨X, 1, none⟩ v) X a v c e :=
  ⟨cell_far4 (by omega) h.c0, cell_same4 h.c1, cell_far4 (by omega) h.c2, cell_far4 (by omega) h.c3, (World.frozen?_setCell _ _ _ _).trans h.f0, (World.frozen?_setCell _ _ _ _).trans h.f1, (World.frozen?_setCell _ _ _ _).trans h.f2, (World.frozen?_setCell _ _ _ _).trans h.f3⟩
theorem B4.set2 {w : World} {X : Nat} {a b c e : Value} (h : B4 w X a b c e) (v : Value) : B4 (w.setCell ⟨X, 2, none⟩ v) X a b v e :=
  ⟨cell_far4 (by omega) h.c0, cell_far4 (by omega) h.c1, cell_same4 h.c2, cell_far4 (by omega) h.c3, (World.frozen?_setCell _ _ _ _).trans h.f0, (World.frozen?_setCell _ _ _ _).trans h.f1, (World.frozen?_setCell _ _ _ _).trans h.f2, (World.frozen?_setCell _ _ _ _).trans h.f3⟩
theorem B4.set3 {w : World} {X : Nat} {a b c e : Value} (h : B4 w X a b c e) (v : Value) : B4 (w.setCell ⟨X, 3, none⟩ v) X a b c v :=
  ⟨cell_far4 (by omega) h.c0, cell_far4 (by omega) h.c1, cell_far4 (by omega) h.c2, cell_same4 h.c3, (World.frozen?_setCell _ _ _ _).trans h.f0, (World.frozen?_setCell _ _ _ _).trans h.f1, (World.frozen?_setCell _ _ _ _).trans h.f2, (World.frozen?_setCell _ _ _ _).trans h.f3⟩
/-- All four cells written. -/
abbrev put4 (w : World) (X : Nat) (a b c e : Value) : World := (((w.setCell ⟨X, 0, none⟩ a).setCell ⟨X, 1, none⟩ b).setCell ⟨X, 2, none⟩ c).setCell ⟨X, 3, none⟩ e
theorem B4.put {w : World} {X : Nat} {a b c e : Value} (h : B4 w X a b c e) (a' b' c' e' : Value) : B4 (put4 w X a' b' c' e') X a' b' c' e' := (((h.set0 a').set1 b').set2 c').set3 e'
theorem ownsRow_keep {w w' : World} {base e size : Nat} {v : Value} {n : Nat} {xs : List Value} (h : w.ownsRow base e size v n xs) (hk : ∀ g, v.ownBlock = some g → w'.heap[g]? = w.heap[g]?) : w'.ownsRow base e size v n xs := by
  refine ⟨h.1, ?_⟩
  rcases h.2 with hn | ⟨g, cap, cur, rfl, hbg, hg, rest⟩
  · exact .inl hn
  · exact .inr ⟨g, cap, cur, rfl, hbg, by rw [hk g rfl]; exact hg, rest⟩
theorem ownsRow_lt {w : World} {base e size : Nat} {v : Value} {n : Nat} {xs : List Value} (h : w.ownsRow base e size v n xs) : ∀ g, v.ownBlock = some g → base ≤ g ∧ g < w.heap.size := by
  intro g hg
  rcases h.2 with ⟨rfl, _⟩ | ⟨g', cap, cur, rfl, hbg, hgg, rest⟩
  · simp [Value.ownBlock] at hg
  · simp [Value.ownBlock] at hg
    subst hg
    exact ⟨hbg, (Array.getElem?_eq_some_iff.1 hgg).1⟩
section
variable {P : Program} (w : World)
/-- An append to a slice of the call's own: it has room, or what comes of it is small enough to grow. -/
theorem run_append_at (base : Nat) (t tx ty e : TypeId) (i : TypeInfo) (z : Value) (size bytes : Nat) (ht : P.underlying t = some (.slice e)) (hi : P.info? e = some i) (hz : i.zero = some z)
    (hsize : i.size = size) (hby : i.bytes = bytes) (hzs : z.cells.size = size)
    (v : Value) (n : Nat) (xs : List Value) (hown : w.ownsRow base e size v n xs)
    (x : Value) (m : Nat) (news : List Value) (hs : Src P size tx x m news w) (r : Nat) (hroom : Room bytes v n r) (hm : m ≤ r)
    (h63 : n + r ≤ maxLen) (hbase : base ≤ w.heap.size) :
    ∃ v' w', (Builtin.append_ #[t, tx] ty #[v, x]).run P w = .ok v' w' ∧ w'.ownsRow base e size v' (n + m) (xs ++ news) ∧ w.grownBy w' v.ownBlock ∧ Room bytes v' (n + m) (r - m) ∧ (v'.ownBlock = v.ownBlock ∨ v'.ownBlock = some w.heap.size) := by
  subst hsize
  subst hby
  have hl := hs.newsLen
  have h63' : n + m ≤ 9223372036854775807 := by simp only [maxLen] at h63; omega
  have h63m : n + m ≤ maxLen := by simp only [maxLen] at h63 ⊢; omega
  have hlen : (xs ++ news).length = (n + m) * i.size := by rw [List.length_append, hown.1, hl, Nat.add_mul]
  have grown : ∀ (old : Nat), old < n + m → ∀ (row : Option Nat),
      (w.drew.alloc (.cells ((xs ++ news).toArray ++ Builtin.zeroCells z.cells (grownCap w (n + m) old e - (n + m))) e)).ownsRow base e i.size
        (.slice (some ⟨w.heap.size, 0, none⟩) (n + m) (grownCap w (n + m) old e)) (n + m) (xs ++ news) ∧
      w.grownBy (w.drew.alloc (.cells ((xs ++ news).toArray ++ Builtin.zeroCells z.cells (grownCap w (n + m) old e - (n + m))) e)) row := by
    intro old ho row
    have hge := grownCap_ge w (n + m) old e
    have hcm : grownCap w (n + m) old e ≤ maxLen := grownCap_le_maxLen w (n + m) old e h63m
    refine ⟨⟨hlen, .inr ⟨w.heap.size, _, _, rfl, hbase, heap_alloc_new w.drew _, hge, hcm, ?_, ?_⟩⟩, ⟨rfl, rfl, rfl, by simp, fun k hk _ => Below.heap_alloc w.drew _ k hk⟩⟩
    · simp only [Array.size_append, List.size_toArray, size_zeroCells, hzs, hlen, ← Nat.add_mul]
      congr 1
      omega
    · simp only [Array.toList_append]
      rw [← hlen]
      exact List.take_left
  have bound : ∀ {a cap}, v = .slice a n cap → cap < n + m → (n + r + (n + r) / 4 + 192) * i.bytes ≤ 281474976710656 := by
    intro a cap hv hc
    rcases hroom with ⟨a', cap', hv', hc'⟩ | h
    · rw [hv] at hv'
      simp only [Value.slice.injEq] at hv'
      omega
    · exact h
  rcases hown.2 with ⟨rfl, rfl⟩ | ⟨g, cap, cur, rfl, hbg, hg, hnc, hcm, hcs, htake⟩
  · have hx : xs = [] := List.eq_nil_of_length_eq_zero (by simpa using hown.1)
    subst hx
    by_cases hm0 : m = 0
    · subst hm0
      have hn : news = [] := List.eq_nil_of_length_eq_zero (by simpa using hl)
      subst hn
      exact ⟨.slice none 0 0, w, run_append_nothing w t tx ty e i ht hi x hs, World.ownsRow_nil w base e i.size, World.grownBy.refl w _, by simpa using hroom, .inl rfl⟩
    · have hb := bound rfl (by omega)
      have hr := run_append_grow_src (P := P) w t tx ty e i z ht hi hz none 0 0 [] (by simp [Builtin.firstCells]) x m news hs (by omega) (by omega) (growslice_fits_wide (by omega) (Nat.le_trans (Nat.mul_le_mul_right _ (by omega)) hb))
      have hgr := grown 0 (by omega) (Value.ownBlock (.slice none 0 0))
      simp only [Nat.zero_add, List.nil_append] at hgr hr ⊢
      exact ⟨_, _, hr, hgr.1, hgr.2, .inr (Nat.le_trans (Nat.mul_le_mul_right _ (by omega)) hb), .inr rfl⟩
  · by_cases hrm : n + m ≤ cap
    · have hfit : n * i.size + news.length ≤ cur.size := by rw [hl, hcs, ← Nat.add_mul]; exact Nat.mul_le_mul_right _ hrm
      have hr := run_append_room_src_own (P := P) w t tx ty e i ht hi g n cap cur hg x m news hs hrm hfit
      refine ⟨_, _, hr, ⟨hlen, .inr ⟨g, cap, _, rfl, hbg, setRow_heap w g cur _ e _ hg, hrm, hcm, ?_, ?_⟩⟩, ⟨rfl, rfl, rfl, by simp, fun k _ hk => setRow_other w g k _ (fun e => hk (by simp [Value.ownBlock, e]))⟩, ?_, .inl rfl⟩
      · simp only [List.size_toArray, List.length_append, List.length_take, List.length_drop, Array.length_toList]
        omega
      · rw [htake, ← hlen]
        exact List.take_left
      · rcases hroom with ⟨a, c, hv, hc⟩ | h
        · simp only [Value.slice.injEq] at hv
          exact .inl ⟨_, _, rfl, by omega⟩
        · exact .inr (Nat.le_trans (Nat.mul_le_mul_right _ (by omega)) h)
    · have hb := bound rfl (by omega)
      have holds : ∀ j u, xs[j]? = some u → w.cell? ((⟨g, 0, none⟩ : Addr).add j) = some u := hown.cells (g := g) rfl
      have hr := run_append_grow_src (P := P) w t tx ty e i z ht hi hz (some ⟨g, 0, none⟩) n cap xs (run_firstCells_some w.drew i.size n ⟨g, 0, none⟩ n cap xs hown.1 (by simpa using holds)) x m news hs (by omega) (by omega)
        (growslice_fits_wide (by omega) (Nat.le_trans (Nat.mul_le_mul_right _ (by omega)) hb))
      have hgr := grown cap (by omega) (Value.ownBlock (.slice (some ⟨g, 0, none⟩) n cap))
      exact ⟨_, _, hr, hgr.1, hgr.2, .inr (Nat.le_trans (Nat.mul_le_mul_right _ (by omega)) hb), .inr rfl⟩

theorem wpList_append_at {ops : Array Oper} {rest : List Oper} {o : Oper} {a : Act} {Q : Exit → Act → World → Prop} (hgd : o.guard = none) (s x : Operand) (t tx : TypeId)
    (ho : o.op = .call { callee := .builtin .append, args := #[s, x], argTypes := #[t, tx] })
    (base : Nat) (e : TypeId) (i : TypeInfo) (z : Value) (size bytes : Nat) (ht : P.underlying t = some (.slice e)) (hi : P.info? e = some i) (hz : i.zero = some z)
    (hsize : i.size = size) (hby : i.bytes = bytes) (hzs : z.cells.size = size)
    (v : Value) (n : Nat) (xs : List Value) (hs : a.eval s = v) (hown : w.ownsRow base e size v n xs)
    (xv : Value) (m : Nat) (news : List Value) (hx : a.eval x = xv) (hsrc : Src P size tx xv m news w) (r : Nat) (hroom : Room bytes v n r) (hm : m ≤ r)
    (h63 : n + r ≤ maxLen) (hbase : base ≤ w.heap.size)
    (h : ∀ v' w', w'.ownsRow base e size v' (n + m) (xs ++ news) → w.grownBy w' v.ownBlock → (v'.ownBlock = v.ownBlock ∨ v'.ownBlock = some w.heap.size) → wpList P ops Q rest (a.put o.dst v') w') : wpList P ops Q (o :: rest) a w := by
  refine wpList_plain hgd fun K hK => ?_
  obtain ⟨v', w', hr, h2, h3, _, h4⟩ := run_append_at (P := P) w base t tx o.type e i z size bytes ht hi hz hsize hby hzs v n xs hown xv m news hsrc r hroom hm h63 hbase
  unfold Oper.wp execOp
  simp only [ho, resolve, invoke, builtin, Sem.run_bind, Sem.run_pure, Result.andThen_ok, List.map_toArray, List.map_cons, List.map_nil, hs, hx, hr]
  exact hK _ _ (h v' w' h2 h3 h4)
end
theorem step_append_at {P : Program} (w : World) {ops : Array Oper} {o : Oper} {a : Act} {K : Act → World → Prop} {Q : Exit → Act → World → Prop} {E : Prop} (hgd : o.guard = none) (s x : Operand) (t tx : TypeId)
    (ho : o.op = .call { callee := .builtin .append, args := #[s, x], argTypes := #[t, tx] })
    (base : Nat) (e : TypeId) (i : TypeInfo) (z : Value) (size bytes : Nat) (ht : P.underlying t = some (.slice e)) (hi : P.info? e = some i) (hz : i.zero = some z)
    (hsize : i.size = size) (hby : i.bytes = bytes) (hzs : z.cells.size = size)
    (v : Value) (n : Nat) (xs : List Value) (hs : a.eval s = v) (hown : w.ownsRow base e size v n xs)
    (xv : Value) (m : Nat) (news : List Value) (hx : a.eval x = xv) (hsrc : Src P size tx xv m news w) (r : Nat) (hroom : Room bytes v n r) (hm : m ≤ r)
    (h63 : n + r ≤ maxLen) (hbase : base ≤ w.heap.size)
    (h : ∀ v' w', w'.ownsRow base e size v' (n + m) (xs ++ news) → w.grownBy w' v.ownBlock → (v'.ownBlock = v.ownBlock ∨ v'.ownBlock = some w.heap.size) → K (a.put o.dst v') w') :
    if Region.wanted o (yielded ops a.tmps) = true then Oper.wp P o a w K Q else E := by
  have hw : Region.wanted o (yielded ops a.tmps) = true := by simp [Region.wanted, hgd]
  rw [if_pos hw]
  obtain ⟨v', w', hr, h2, h3, _, h4⟩ := run_append_at (P := P) w base t tx o.type e i z size bytes ht hi hz hsize hby hzs v n xs hown xv m news hsrc r hroom hm h63 hbase
  unfold Oper.wp execOp
  simp only [ho, resolve, invoke, builtin, Sem.run_bind, Sem.run_pure, Result.andThen_ok, List.map_toArray, List.map_cons, List.map_nil, hs, hx, hr]
  exact h v' w' h2 h3 h4

end Go.Proofs.Ytpblcahcpobicaa

/- Trees made deeper. Math alone. -/
namespace Go.Proofs.Ytpblcahcpobicaa
set_option linter.unusedSimpArgs false
set_option linter.unusedVariables false

/-- The same tree, at one depth more. -/
def lift : (d : Nat) → T d → T (d + 1)
  | 0, t => Empty.elim t
  | d + 1, t => mkT (show Int × Int × ByteArray × List (T d) from t).1 (show Int × Int × ByteArray × List (T d) from t).2.1 (show Int × Int × ByteArray × List (T d) from t).2.2.1 ((show Int × Int × ByteArray × List (T d) from t).2.2.2.map (lift d))
theorem lift_mk {d : Nat} (k n : Int) (s : ByteArray) (ps : List (T d)) : lift (d + 1) (mkT k n s ps) = mkT k n s (ps.map (lift d)) := rfl
theorem fold_lift {α : Type} (f : Int → Int → ByteArray → List α → α) : ∀ (d : Nat) (t : T d), fold f (d + 1) (lift d t) = fold f d t
  | 0, t => Empty.elim t
  | d + 1, t => by
    obtain ⟨k, n, s, ps, rfl⟩ := T.open t
    rw [lift_mk, fold_mk, fold_mk, List.map_map]
    congr 1
    exact List.map_congr_left (fun p _ => fold_lift f d p)
theorem cl_lift : ∀ (d : Nat) (t : T d), Cl d t → Cl (d + 1) (lift d t)
  | 0, t, _ => Empty.elim t
  | d + 1, t, h => by
    rcases h.cases with ⟨n, rfl⟩ | ⟨s, rfl⟩ | ⟨k, p, hk, rfl, hp⟩ | ⟨s, p, q, rfl, hp, hq⟩ | rfl
    · exact .inl ⟨rfl, rfl, rfl⟩
    · exact .inr (.inl ⟨rfl, rfl, rfl⟩)
    · exact .inr (.inr (.inl ⟨hk, rfl, rfl, _, rfl, cl_lift d p hp⟩))
    · exact .inr (.inr (.inr (.inl ⟨rfl, rfl, _, _, rfl, cl_lift d p hp, cl_lift d q hq⟩)))
    · exact cl_none
/-- As deep as is wanted. -/
def As (d : Nat) (t : T d) (D : Nat) (t' : T D) : Prop := (∀ (α : Type) (f : Int → Int → ByteArray → List α → α), fold f D t' = fold f d t) ∧ (Cl d t → Cl D t')
theorem as_add (d : Nat) (t : T d) : ∀ k, ∃ t' : T (d + k), As d t (d + k) t'
  | 0 => ⟨t, fun _ _ => rfl, id⟩
  | k + 1 => by
    obtain ⟨t', h1, h2⟩ := as_add d t k
    exact ⟨lift (d + k) t', fun α f => (fold_lift f (d + k) t').trans (h1 α f), fun h => cl_lift _ _ (h2 h)⟩
theorem as_at (d : Nat) (t : T d) {D : Nat} (h : d ≤ D) : ∃ t' : T D, As d t D t' := by
  obtain ⟨k, rfl⟩ := Nat.le.dest h
  exact as_add d t k
theorem both (d e : Nat) (t : T d) (u : T e) : ∃ (D : Nat) (t' u' : T D), As d t D t' ∧ As e u D u' := by
  obtain ⟨t', ht⟩ := as_at d t (Nat.le_max_left d e)
  obtain ⟨u', hu⟩ := as_at e u (Nat.le_max_right d e)
  exact ⟨_, t', u', ht, hu⟩
end Go.Proofs.Ytpblcahcpobicaa

/- Texts as runes: what a text begins with, all its runes, and what a sign of ASCII parts. -/
namespace Go.Proofs.Ytpblcahcpobicaa
open Go.Lib
set_option linter.unusedSimpArgs false
set_option linter.unusedVariables false

/-- The rune that a text begins with, and how many bytes it has; -1: it is none. -/
def nx (l : List UInt8) : Int × Nat :=
  if l = [] then (-1, 0) else if (decodeL l).1 = 65533 ∧ (decodeL l).2 ≤ 1 then (-1, (decodeL l).2) else (((decodeL l).1 : Int), (decodeL l).2)

abbrev Ru := Int × List UInt8

def runesF : Nat → List UInt8 → List Ru
  | 0, _ => []
  | f + 1, l => if l = [] then [] else ((nx l).1, l.take (nx l).2) :: runesF f (l.drop (nx l).2)
def runes (l : List UInt8) : List Ru := runesF l.length l

theorem decodeL_le (l : List UInt8) (h : l ≠ []) : 1 ≤ (decodeL l).2 ∧ (decodeL l).2 ≤ l.length := by
  have hl : 1 ≤ l.length := List.length_pos_iff.2 h
  rw [decodeL_N]
  rcases decodeN_shape l.length (l.getD 0 0).toNat (l.getD 1 0).toNat (l.getD 2 0).toNat (l.getD 3 0).toNat with ⟨_, e⟩ | ⟨_, h1, _, _, e⟩ | ⟨_, h1, _, _, _, _, e⟩ | ⟨_, h1, _, _, _, _, _, e⟩ | e <;> rw [e] <;> simp only <;> omega

theorem nx_size {l : List UInt8} (h : l ≠ []) : (nx l).2 = (decodeL l).2 := by
  unfold nx
  rw [if_neg h]
  split <;> rfl
theorem nx_pos {l : List UInt8} (h : l ≠ []) : 1 ≤ (nx l).2 := by rw [nx_size h]; exact (decodeL_le l h).1
theorem nx_le {l : List UInt8} (h : l ≠ []) : (nx l).2 ≤ l.length := by rw [nx_size h]; exact (decodeL_le l h).2

theorem runesF_nil (f : Nat) : runesF f [] = [] := by cases f <;> simp [runesF]
theorem runesF_more : ∀ (f : Nat) (l : List UInt8), l.length ≤ f → runesF f l = runesF l.length l
  | 0, l, h => by
    have : l = [] := List.eq_nil_of_length_eq_zero (by omega)
    subst this; rfl
  | f + 1, l, h => by
    by_cases hl : l = []
    · subst hl; rw [runesF_nil, runesF_nil]
    · obtain ⟨n, hn⟩ : ∃ n, l.length = n + 1 := ⟨l.length - 1, by have := List.length_pos_iff.2 hl; omega⟩
      have h1 := nx_pos hl
      have hd : (l.drop (nx l).2).length ≤ n := by rw [List.length_drop]; omega
      rw [hn]
      simp only [runesF, if_neg hl]
      rw [runesF_more f _ (by omega), runesF_more n _ hd]
theorem runes_nil : runes [] = [] := rfl
theorem runes_cons {l : List UInt8} (h : l ≠ []) : runes l = ((nx l).1, l.take (nx l).2) :: runes (l.drop (nx l).2) := by
  obtain ⟨n, hn⟩ : ∃ n, l.length = n + 1 := ⟨l.length - 1, by have := List.length_pos_iff.2 h; omega⟩
  have h1 := nx_pos h
  unfold runes
  rw [hn]
  simp only [runesF, if_neg h]
  rw [runesF_more n _ (by rw [List.length_drop]; omega)]

theorem nx_ascii {c : UInt8} (h : c.toNat < 128) (r : List UInt8) : nx (c :: r) = ((c.toNat : Int), 1) := by
  have e : decodeL (c :: r) = (c.toNat, 1) := by rw [decodeL_N]; exact decodeN_ascii _ _ _ _ _ h
  unfold nx
  rw [if_neg (by simp), e, if_neg (by simp only; omega)]
theorem runes_ascii {c : UInt8} (h : c.toNat < 128) (r : List UInt8) : runes (c :: r) = ((c.toNat : Int), [c]) :: runes r := by
  rw [runes_cons (by simp), nx_ascii h]
  rfl
theorem nx_big {c : UInt8} (h : ¬ c.toNat < 128) (r : List UInt8) : (nx (c :: r)).1 = -1 ∨ 128 ≤ (nx (c :: r)).1 := by
  unfold nx
  rw [if_neg (by simp)]
  split
  · exact .inl rfl
  · right
    have e := decodeL_N (c :: r)
    rcases decodeN_shape (c :: r).length ((c :: r).getD 0 0).toNat ((c :: r).getD 1 0).toNat ((c :: r).getD 2 0).toNat ((c :: r).getD 3 0).toNat with ⟨hb, _⟩ | ⟨_, _, _, _, e2⟩ | ⟨_, _, _, _, _, _, e2⟩ | ⟨_, _, _, _, _, _, _, e2⟩ | e2
    · simp at hb; omega
    all_goals (rw [e, e2]; simp only; omega)

/-- A rune's bytes, whatever stands behind them. -/
def Good (v : Ru) : Prop := v.2 ≠ [] ∧ ∀ b, nx (v.2 ++ b) = (v.1, v.2.length)

theorem runes_good {v : Ru} (h : Good v) (b : List UInt8) : runes (v.2 ++ b) = v :: runes b := by
  rw [runes_cons (by intro e; exact h.1 (List.append_eq_nil_iff.1 e).1), h.2 b]
  simp only [List.take_left, List.drop_left]

/-- The bytes of runes. -/
def byt (vs : List Ru) : List UInt8 := vs.flatMap (·.2)
theorem byt_cons (v : Ru) (vs : List Ru) : byt (v :: vs) = v.2 ++ byt vs := rfl
theorem byt_append (a b : List Ru) : byt (a ++ b) = byt a ++ byt b := by simp [byt]

theorem runes_goods : ∀ (vs : List Ru) (b : List UInt8), (∀ v ∈ vs, Good v) → runes (byt vs ++ b) = vs ++ runes b
  | [], b, _ => rfl
  | v :: vs, b, h => by
    rw [byt_cons, List.append_assoc, runes_good (h v (by simp)), runes_goods vs b (fun x hx => h x (by simp [hx]))]
    rfl

/-- The runes of a text make the text. -/
theorem byt_runes : ∀ (n : Nat) (l : List UInt8), l.length ≤ n → byt (runes l) = l
  | 0, l, h => by
    have : l = [] := List.eq_nil_of_length_eq_zero (by omega)
    subst this; rfl
  | n + 1, l, h => by
    by_cases hl : l = []
    · subst hl; rfl
    · have h1 := nx_pos hl
      rw [runes_cons hl, byt_cons, byt_runes n _ (by rw [List.length_drop]; omega), List.take_append_drop]

theorem getD_app_lt {a b : List UInt8} {i : Nat} (h : i < a.length) : (a ++ b).getD i 0 = a.getD i 0 := by simp [List.getD, List.getElem?_append_left h]

theorem stop1 (m b0 c c2 c3 b1 b2 b3 : Nat) (hc : c / 64 ≠ 2) : decodeN (1 + (m + 1)) b0 c c2 c3 = decodeN 1 b0 b1 b2 b3 := by
  by_cases h : b0 < 128
  · rw [decodeN_ascii _ _ _ _ _ h, decodeN_ascii _ _ _ _ _ h]
  · rw [decodeN_alone _ _ _ _ _ (by omega) (.inr hc), decodeN_alone _ _ _ _ _ (by omega) (.inl (Nat.le_refl _))]
set_option maxRecDepth 100000 in
theorem stop2 (m b0 b1 c c3 b2 b3 : Nat) (hc : c / 64 ≠ 2) : decodeN (2 + (m + 1)) b0 b1 c c3 = decodeN 2 b0 b1 b2 b3 := by
  unfold decodeN
  repeat' split
  all_goals first | rfl | (exfalso; omega)
set_option maxRecDepth 100000 in
theorem stop3 (m b0 b1 b2 c b3 : Nat) (hc : c / 64 ≠ 2) : decodeN (3 + (m + 1)) b0 b1 b2 c = decodeN 3 b0 b1 b2 b3 := by
  unfold decodeN
  repeat' split
  all_goals first | rfl | (exfalso; omega)
set_option maxRecDepth 100000 in
theorem stop4 (n m b0 b1 b2 b3 : Nat) (h : 3 < n) : decodeN (n + (m + 1)) b0 b1 b2 b3 = decodeN n b0 b1 b2 b3 := by
  unfold decodeN
  repeat' split
  all_goals first | rfl | (exfalso; omega)

/-- A sign of ASCII behind a text: the text's own runes stay as they are. -/
theorem decodeL_stop {a : List UInt8} (ha : a ≠ []) {c : UInt8} (hc : c.toNat < 128) (b : List UInt8) : decodeL (a ++ c :: b) = decodeL a := by
  rw [decodeL_N, decodeL_N]
  have hlen := List.length_pos_iff.2 ha
  have g : ∀ i, i < a.length → (a ++ c :: b).getD i 0 = a.getD i 0 := fun i hi => getD_app_lt hi
  have gc : (a ++ c :: b).getD a.length 0 = c := by simp [List.getD]
  have hL : (a ++ c :: b).length = a.length + (b.length + 1) := by simp
  have c64 : c.toNat / 64 ≠ 2 := by omega
  rw [g 0 hlen, hL]
  rcases Nat.lt_or_ge 1 a.length with h1 | h1
  · rw [g 1 h1]
    rcases Nat.lt_or_ge 2 a.length with h2 | h2
    · rw [g 2 h2]
      rcases Nat.lt_or_ge 3 a.length with h3 | h3
      · rw [g 3 h3]
        exact stop4 _ _ _ _ _ _ h3
      · have e3 : a.length = 3 := by omega
        rw [e3] at gc ⊢
        rw [gc]
        exact stop3 _ _ _ _ _ _ c64
    · have e2 : a.length = 2 := by omega
      rw [e2] at gc ⊢
      rw [gc]
      exact stop2 _ _ _ _ _ _ _ c64
  · have e1 : a.length = 1 := by omega
    rw [e1] at gc ⊢
    rw [gc]
    exact stop1 _ _ _ _ _ _ _ _ c64
theorem nx_stop {a : List UInt8} (ha : a ≠ []) {c : UInt8} (hc : c.toNat < 128) (b : List UInt8) : nx (a ++ c :: b) = nx a := by
  unfold nx
  rw [if_neg ha, if_neg (by simp), decodeL_stop ha hc b]
theorem runes_stop : ∀ (n : Nat) (a : List UInt8), a.length ≤ n → ∀ {c : UInt8}, c.toNat < 128 → ∀ b, runes (a ++ c :: b) = runes a ++ runes (c :: b)
  | 0, a, h, c, hc, b => by
    have : a = [] := List.eq_nil_of_length_eq_zero (by omega)
    subst this; rfl
  | n + 1, a, h, c, hc, b => by
    by_cases ha : a = []
    · subst ha; rfl
    · have h1 := nx_pos ha
      have h2 := nx_le ha
      rw [runes_cons (by simp : a ++ c :: b ≠ []), runes_cons ha, nx_stop ha hc b, List.take_append_of_le_length h2, List.drop_append_of_le_length h2, runes_stop n _ (by rw [List.length_drop]; omega) hc b]
      rfl


def letter (r : Int) : Bool := decide (97 ≤ r ∧ r ≤ 122 ∨ 65 ≤ r ∧ r ≤ 90 ∨ 1072 ≤ r ∧ r ≤ 1103)
def dgt (r : Int) : Bool := decide (48 ≤ r ∧ r ≤ 57)
def insd (r : Int) : Bool := letter r || dgt r || r == 95

/-- How many runes that may stand in a name runes begin with. -/
def spn : List Ru → Nat
  | [] => 0
  | v :: t => if insd v.1 = true then spn t + 1 else 0
def val (n : Int) : List Ru → Int
  | [] => n
  | v :: t => val (10 * n + (v.1 - 48)) t
/-- Are they a number? -/
def numb (rs : List Ru) : Bool :=
  decide (1 ≤ rs.length ∧ rs.length ≤ 10) && !(decide ((rs.headD (0, [])).1 = 48) && decide (1 < rs.length)) && rs.all (fun v => dgt v.1) && decide (val 0 rs ≤ 1000000000)
def one (a : Int) : Nat := if a = 123 ∨ a = 125 ∨ a = 40 ∨ a = 41 ∨ a = 61 ∨ a = 33 ∨ a = 60 ∨ a = 43 ∨ a = 45 ∨ a = 42 then 1 else 0
def pair (a b : Int) : Bool := decide (b = 61 ∧ (a = 61 ∨ a = 33 ∨ a = 60) ∨ a = 38 ∧ b = 38 ∨ a = 124 ∧ b = 124)
/-- How many runes of a sign runes begin with. -/
def sgn : List Ru → Nat
  | [] => 0
  | [v] => one v.1
  | v :: u :: _ => if pair v.1 u.1 = true then 2 else one v.1
/-- The kind of the word that runes begin with, and how many of them it has; 0: there is none. -/
def fst1 : List Ru → Nat × Nat
  | [] => (0, 0)
  | v :: t => if letter v.1 = true then (if spn (v :: t) ≤ 24 then (1, spn (v :: t)) else (0, 0))
    else if dgt v.1 = true then (if numb ((v :: t).take (spn (v :: t))) = true then (2, spn (v :: t)) else (0, 0))
    else if sgn (v :: t) = 0 then (0, 0) else (3, sgn (v :: t))

/-- A word: its kind, its runes, its place. -/
abbrev Wd := Nat × List Ru × Int × Int
/-- The words, a place, an error. -/
abbrev Rs := List Wd × (Int × Int) × Int
def pre (w : Wd) (r : Rs) : Rs := if r.2.2 = 0 then (w :: r.1, r.2) else r
/-- How many runes there are ahead of the line's end. -/
def rest : List Ru → Nat
  | [] => 0
  | v :: t => if v.1 = 10 then 0 else rest t + 1

def wrd : Nat → List Ru → Int → Int → Nat → Rs
  | 0, _, _, _, _ => ([], (0, 0), 0)
  | _ + 1, [], _, _, _ => ([], (0, 0), 0)
  | f + 1, v :: t, ln, co, n =>
    if v.1 = 10 then wrd f t (ln + 1) 1 n
    else if v.1 = 32 ∨ v.1 = 9 then wrd f t ln (co + 1) n
    else if v.1 = 35 then wrd f ((v :: t).drop (rest (v :: t))) ln (co + rest (v :: t)) n
    else if (fst1 (v :: t)).1 = 0 then ([], (ln, co), 11)
    else if n = 3000 then ([], (ln, co), 4)
    else pre ((fst1 (v :: t)).1, (v :: t).take (fst1 (v :: t)).2, ln, co) (wrd f ((v :: t).drop (fst1 (v :: t)).2) ln (co + (fst1 (v :: t)).2) (n + 1))
def wrds (rs : List Ru) (ln co : Int) (n : Nat) : Rs := wrd rs.length rs ln co n

theorem spn_le : ∀ rs : List Ru, spn rs ≤ rs.length
  | [] => Nat.le_refl _
  | v :: t => by
    unfold spn
    split
    · have := spn_le t; simp; omega
    · simp
theorem spn_pos {v : Ru} {t : List Ru} (h : insd v.1 = true) : 1 ≤ spn (v :: t) := by unfold spn; rw [if_pos h]; omega
theorem letter_insd {r : Int} (h : letter r = true) : insd r = true := by simp [insd, h]
theorem dgt_insd {r : Int} (h : dgt r = true) : insd r = true := by simp [insd, h]
theorem one_le (a : Int) : one a ≤ 1 := by unfold one; split <;> omega
theorem sgn_le : ∀ rs : List Ru, sgn rs ≤ rs.length
  | [] => Nat.le_refl _
  | [v] => one_le _
  | v :: u :: t => by
    have := one_le v.1
    show (if pair v.1 u.1 = true then 2 else one v.1) ≤ _
    split <;> simp <;> omega
theorem fst1_le (v : Ru) (t : List Ru) (h : (fst1 (v :: t)).1 ≠ 0) : 1 ≤ (fst1 (v :: t)).2 ∧ (fst1 (v :: t)).2 ≤ (v :: t).length := by
  have h1 := spn_le (v :: t)
  have h2 := sgn_le (v :: t)
  unfold fst1 at h ⊢
  by_cases a : letter v.1 = true
  · have := spn_pos (t := t) (letter_insd a)
    simp only [if_pos a] at h ⊢
    by_cases b : spn (v :: t) ≤ 24
    · simp only [if_pos b]; exact ⟨this, h1⟩
    · simp only [if_neg b] at h; exact absurd rfl h
  · simp only [if_neg a] at h ⊢
    by_cases d : dgt v.1 = true
    · have := spn_pos (t := t) (dgt_insd d)
      simp only [if_pos d] at h ⊢
      by_cases b : numb ((v :: t).take (spn (v :: t))) = true
      · simp only [if_pos b]; exact ⟨this, h1⟩
      · simp only [if_neg b] at h; exact absurd rfl h
    · simp only [if_neg d] at h ⊢
      by_cases b : sgn (v :: t) = 0
      · simp only [if_pos b] at h; exact absurd rfl h
      · simp only [if_neg b]; exact ⟨by omega, h2⟩
theorem rest_pos {v : Ru} {t : List Ru} (h : v.1 ≠ 10) : 1 ≤ rest (v :: t) := by unfold rest; rw [if_neg h]; omega

theorem wrd_more : ∀ (f : Nat) (rs : List Ru) (ln co : Int) (n : Nat), rs.length ≤ f → wrd f rs ln co n = wrds rs ln co n
  | 0, rs, ln, co, n, h => by
    have : rs = [] := List.eq_nil_of_length_eq_zero (by omega)
    subst this; rfl
  | f + 1, [], ln, co, n, h => rfl
  | f + 1, v :: t, ln, co, n, h => by
    have ht : t.length ≤ f := by simp at h; omega
    unfold wrds
    simp only [List.length_cons, wrd]
    by_cases c1 : v.1 = 10
    · simp only [if_pos c1]; rw [wrd_more f t _ _ _ ht]; rfl
    simp only [if_neg c1]
    by_cases c2 : v.1 = 32 ∨ v.1 = 9
    · simp only [if_pos c2]; rw [wrd_more f t _ _ _ ht]; rfl
    simp only [if_neg c2]
    by_cases c3 : v.1 = 35
    · simp only [if_pos c3]
      have hp := rest_pos (t := t) c1
      have hd : ((v :: t).drop (rest (v :: t))).length ≤ t.length := by rw [List.length_drop]; simp; omega
      rw [wrd_more f _ _ _ _ (by omega), wrd_more t.length _ _ _ _ hd]
    simp only [if_neg c3]
    by_cases c4 : (fst1 (v :: t)).1 = 0
    · simp only [if_pos c4]
    simp only [if_neg c4]
    have hm := (fst1_le v t c4).1
    have hd : ((v :: t).drop (fst1 (v :: t)).2).length ≤ t.length := by rw [List.length_drop]; simp; omega
    rw [wrd_more f _ _ _ _ (by omega), wrd_more t.length _ _ _ _ hd]

theorem wrds_nil (ln co : Int) (n : Nat) : wrds [] ln co n = ([], (0, 0), 0) := rfl
theorem wrds_cons (v : Ru) (t : List Ru) (ln co : Int) (n : Nat) : wrds (v :: t) ln co n =
    if v.1 = 10 then wrds t (ln + 1) 1 n
    else if v.1 = 32 ∨ v.1 = 9 then wrds t ln (co + 1) n
    else if v.1 = 35 then wrds ((v :: t).drop (rest (v :: t))) ln (co + rest (v :: t)) n
    else if (fst1 (v :: t)).1 = 0 then ([], (ln, co), 11)
    else if n = 3000 then ([], (ln, co), 4)
    else pre ((fst1 (v :: t)).1, (v :: t).take (fst1 (v :: t)).2, ln, co) (wrds ((v :: t).drop (fst1 (v :: t)).2) ln (co + (fst1 (v :: t)).2) (n + 1)) := by
  have hw : wrds (v :: t) ln co n = wrd (t.length + 1) (v :: t) ln co n := rfl
  rw [hw]
  simp only [wrd]
  by_cases c1 : v.1 = 10
  · simp only [if_pos c1]; rfl
  simp only [if_neg c1]
  by_cases c2 : v.1 = 32 ∨ v.1 = 9
  · simp only [if_pos c2]; rfl
  simp only [if_neg c2]
  by_cases c3 : v.1 = 35
  · simp only [if_pos c3]
    have hp := rest_pos (t := t) c1
    rw [wrd_more t.length _ _ _ _ (by rw [List.length_drop]; simp; omega)]
  simp only [if_neg c3]
  by_cases c4 : (fst1 (v :: t)).1 = 0
  · simp only [if_pos c4]
  simp only [if_neg c4]
  have hm := (fst1_le v t c4).1
  rw [wrd_more t.length _ _ _ _ (by rw [List.length_drop]; simp; omega)]

/-- Kinds and runes alone, and the error. -/
def er (r : Rs) : List (Nat × List Ru) × Int := (r.1.map (fun w => (w.1, w.2.1)), r.2.2)
/-- A line further down. -/
def up (r : Rs) : Rs := (r.1.map (fun w => (w.1, w.2.1, w.2.2.1 + 1, w.2.2.2)), (if r.2.2 = 0 then r.2.1 else (r.2.1.1 + 1, r.2.1.2)), r.2.2)
/-- A rune that is no part of a word: a blank, a line feed. -/
def Stop (z : Ru) : Prop := insd z.1 = false ∧ z.1 ≠ 61 ∧ z.1 ≠ 38 ∧ z.1 ≠ 124
theorem spn_stop {z : Ru} (hz : Stop z) : ∀ (a b : List Ru), spn (a ++ z :: b) = spn a
  | [], b => by simp [spn, hz.1]
  | v :: t, b => by
    have := spn_stop hz t b
    simp only [List.cons_append, spn, this]
theorem sgn_stop {z : Ru} (hz : Stop z) : ∀ (a b : List Ru), a ≠ [] → sgn (a ++ z :: b) = sgn a
  | [], b, h => absurd rfl h
  | [v], b, h => by
    show (if pair v.1 z.1 = true then 2 else one v.1) = one v.1
    rw [if_neg]
    intro hp
    rcases of_decide_eq_true hp with ⟨h1, _⟩ | ⟨_, h1⟩ | ⟨_, h1⟩
    · exact hz.2.1 h1
    · exact hz.2.2.1 h1
    · exact hz.2.2.2 h1
  | v :: u :: t, b, h => rfl
theorem fst1_cons (v : Ru) (t : List Ru) : fst1 (v :: t) = if letter v.1 = true then (if spn (v :: t) ≤ 24 then (1, spn (v :: t)) else (0, 0))
    else if dgt v.1 = true then (if numb ((v :: t).take (spn (v :: t))) = true then (2, spn (v :: t)) else (0, 0))
    else if sgn (v :: t) = 0 then (0, 0) else (3, sgn (v :: t)) := rfl
theorem fst1_stop {z : Ru} (hz : Stop z) (a b : List Ru) (ha : a ≠ []) : fst1 (a ++ z :: b) = fst1 a := by
  have h1 := spn_stop hz a b
  have h2 := sgn_stop hz a b ha
  have h3 := spn_le a
  match a, ha with
  | v :: t, _ =>
    have e : (v :: t ++ z :: b) = v :: (t ++ z :: b) := rfl
    rw [e] at h1 h2 ⊢
    have e2 : (v :: (t ++ z :: b)).take (spn (v :: t)) = (v :: t).take (spn (v :: t)) := by rw [← e, List.take_append_of_le_length h3]
    rw [fst1_cons, fst1_cons, h1, h2, e2]

def wordsS (l : List UInt8) : Rs := if 12000 < l.length then ([], (1, 1), 4) else wrds (runes l) 1 1 0

/-- The runes of words, a blank behind each. -/
def again (X : List Wd) : List Ru := X.flatMap (fun w => w.2.1 ++ [(32, [32])])

/-- The text of words, a blank behind each. -/
def text (X : List Wd) : List UInt8 := X.flatMap (fun w => byt w.2.1 ++ [32])
end Go.Proofs.Ytpblcahcpobicaa

/- What the walks share: a text's bytes, names, numbers, signs, places, words in memory. -/
namespace Go.Proofs.Ytpblcahcpobicaa
open Go.RowKit Go.Lib
set_option linter.unusedSimpArgs false
set_option linter.unusedVariables false

/-- A text's bytes. -/
abbrev bl (s : ByteArray) : List UInt8 := s.data.toList

/-- m runes that may stand in a name, of k bytes, lie behind us. -/
structure Adv (l : List UInt8) (m k : Nat) : Prop where
  le : k ≤ l.length
  left : runes (l.drop k) = (runes l).drop m
  cnt : spn (runes l) = m + spn (runes (l.drop k))
  size : (byt ((runes l).take m)).length = k
  few : m ≤ k

theorem Adv.zero (l : List UInt8) : Adv l 0 0 := ⟨by omega, rfl, by simp, rfl, by omega⟩

theorem drop_ne {l : List UInt8} {k : Nat} (h : k < l.length) : l.drop k ≠ [] := by
  intro e
  have := congrArg List.length e
  rw [List.length_drop] at this
  simp at this
  omega

theorem byt_split (rs : List Ru) (m : Nat) : (byt rs).length = (byt (rs.take m)).length + (byt (rs.drop m)).length := by
  rw [← List.length_append, ← byt_append, List.take_append_drop]

theorem Adv.step {l : List UInt8} {m k : Nat} (h : Adv l m k) (hk : k < l.length) (hi : insd (nx (l.drop k)).1 = true) : Adv l (m + 1) (k + (nx (l.drop k)).2) := by
  have hne := drop_ne hk
  have hc := runes_cons hne
  have hle := nx_le hne
  have hps := nx_pos hne
  rw [List.length_drop] at hle
  have hd : (runes l).drop m = ((nx (l.drop k)).1, (l.drop k).take (nx (l.drop k)).2) :: runes ((l.drop k).drop (nx (l.drop k)).2) := by rw [← h.left, hc]
  have hd1 : (runes l).drop (m + 1) = runes (l.drop (k + (nx (l.drop k)).2)) := by
    have := congrArg List.tail hd
    rw [List.tail_drop, List.tail_cons, List.drop_drop] at this
    exact this
  refine ⟨by omega, hd1.symm, ?_, ?_, by have := h.few; omega⟩
  · rw [h.cnt, hc, List.drop_drop]
    show m + (if insd (nx (l.drop k)).1 = true then spn _ + 1 else 0) = _
    rw [if_pos hi]
    omega
  · have e1 := byt_split (runes l) (m + 1)
    rw [hd1, byt_runes _ _ (Nat.le_refl _), byt_runes _ _ (Nat.le_refl _), List.length_drop] at e1
    omega

theorem Adv.stop {l : List UInt8} {m k : Nat} (h : Adv l m k) (hs : l.length ≤ k ∨ insd (nx (l.drop k)).1 = false) : spn (runes l) = m := by
  rw [h.cnt]
  rcases hs with hs | hs
  · rw [List.drop_eq_nil_of_le hs]; rfl
  · by_cases hk : l.length ≤ k
    · rw [List.drop_eq_nil_of_le hk]; rfl
    · rw [runes_cons (drop_ne (by omega))]
      show m + (if insd (nx (l.drop k)).1 = true then _ else 0) = m
      rw [if_neg (by rw [hs]; decide)]
      omega

/-- How many bytes the runes have that may stand in a name, ahead. -/
def spb (l : List UInt8) : Nat := (byt ((runes l).take (spn (runes l)))).length

/-- Is a text a name? -/
def nameS (l : List UInt8) : Bool := letter (nx l).1 && ((spb l : Int) == (l.length : Int)) && decide (spn (runes l) ≤ 24)

def dB (c : UInt8) : Bool := decide (48 ≤ c.toNat ∧ c.toNat ≤ 57)

def valB (n : Int) : List UInt8 → Int
  | [] => n
  | c :: r => valB (10 * n + ((c.toNat : Int) - 48)) r

def numB (l : List UInt8) : Bool := decide (1 ≤ l.length ∧ l.length ≤ 10) && !(decide ((l.headD 0).toNat = 48) && decide (1 < l.length)) && l.all dB && decide (valB 0 l ≤ 1000000000)

theorem numB_not {l : List UInt8} (h : l.all dB = false) : numB l = false := by unfold numB; rw [h]; simp

theorem dB_yes {c : UInt8} (h : 48 ≤ c.toNat ∧ c.toNat ≤ 57) : dB c = true := decide_eq_true h

theorem dB_no {c : UInt8} (h : ¬ (48 ≤ c.toNat ∧ c.toNat ≤ 57)) : dB c = false := decide_eq_false h

/-- A rune's first byte tells whether it is of ASCII. -/
theorem runes_form : ∀ (n : Nat) (l : List UInt8), l.length ≤ n → ∀ v ∈ runes l, ∃ c r, v.2 = c :: r ∧ (c.toNat < 128 → v.1 = (c.toNat : Int) ∧ r = []) ∧ (¬ c.toNat < 128 → v.1 = -1 ∨ 128 ≤ v.1)
  | 0, l, h, v, hv => by
    have : l = [] := List.eq_nil_of_length_eq_zero (by omega)
    subst this; cases hv
  | n + 1, [], h, v, hv => by cases hv
  | n + 1, c :: r, h, v, hv => by
    by_cases hc : c.toNat < 128
    · rw [runes_ascii hc] at hv
      rcases List.mem_cons.1 hv with rfl | hv
      · exact ⟨c, [], rfl, fun _ => ⟨rfl, rfl⟩, fun h => absurd hc h⟩
      · exact runes_form n r (by simp at h; omega) v hv
    · have hp := nx_pos (l := c :: r) (by simp)
      rw [runes_cons (by simp)] at hv
      rcases List.mem_cons.1 hv with rfl | hv
      · obtain ⟨m, hm⟩ : ∃ m, (nx (c :: r)).2 = m + 1 := ⟨(nx (c :: r)).2 - 1, by omega⟩
        exact ⟨c, r.take m, by rw [hm, List.take_succ_cons], fun h => absurd h hc, fun _ => nx_big hc r⟩
      · exact runes_form n _ (by rw [List.length_drop]; omega) v hv

theorem form (l : List UInt8) : ∀ v ∈ runes l, ∃ c r, v.2 = c :: r ∧ (c.toNat < 128 → v.1 = (c.toNat : Int) ∧ r = []) ∧ (¬ c.toNat < 128 → v.1 = -1 ∨ 128 ≤ v.1) := runes_form _ l (Nat.le_refl _)

/-- An ASCII rune has one byte. -/
theorem asc_one {l : List UInt8} {v : Ru} (hv : v ∈ runes l) (h : 0 ≤ v.1 ∧ v.1 < 128) : ∃ c, v.2 = [c] ∧ v.1 = (c.toNat : Int) := by
  obtain ⟨c, r, e, h1, h2⟩ := form l v hv
  by_cases hc : c.toNat < 128
  · obtain ⟨a, b⟩ := h1 hc
    exact ⟨c, by rw [e, b], a⟩
  · have := h2 hc; omega

theorem digits_bytes {l : List UInt8} : ∀ (vs : List Ru), (∀ v ∈ vs, v ∈ runes l) → vs.all (fun v => dgt v.1) = true → (byt vs).length = vs.length ∧ (byt vs).all dB = true ∧ (∀ n, valB n (byt vs) = val n vs) ∧ (vs ≠ [] → ((byt vs).headD 0).toNat = ((vs.headD (0, [])).1).toNat)
  | [], _, _ => ⟨rfl, rfl, fun _ => rfl, fun h => absurd rfl h⟩
  | v :: t, hm, ha => by
    simp only [List.all_cons, Bool.and_eq_true] at ha
    have hd : 48 ≤ v.1 ∧ v.1 ≤ 57 := of_decide_eq_true ha.1
    obtain ⟨c, e1, e2⟩ := asc_one (hm v (by simp)) (by omega)
    obtain ⟨i1, i2, i3, i4⟩ := digits_bytes t (fun x hx => hm x (by simp [hx])) ha.2
    have eb : byt (v :: t) = c :: byt t := by rw [byt_cons, e1]; rfl
    rw [eb]
    refine ⟨by simp [i1], ?_, fun n => ?_, fun _ => ?_⟩
    · simp only [List.all_cons, i2, Bool.and_true]
      exact dB_yes (by omega)
    · show valB (10 * n + ((c.toNat : Int) - 48)) (byt t) = val (10 * n + (v.1 - 48)) t
      rw [i3, e2]
    · simp [e2]

theorem not_digits {l : List UInt8} : ∀ (vs : List Ru), (∀ v ∈ vs, v ∈ runes l) → vs.all (fun v => dgt v.1) = false → (byt vs).all dB = false
  | [], _, h => by simp at h
  | v :: t, hm, ha => by
    rw [byt_cons, List.all_append]
    simp only [List.all_cons, Bool.and_eq_false_iff] at ha
    rw [Bool.and_eq_false_iff]
    rcases ha with ha | ha
    · left
      have hd : ¬ (48 ≤ v.1 ∧ v.1 ≤ 57) := of_decide_eq_false ha
      obtain ⟨c, r, e, h1, h2⟩ := form l v (hm v (by simp))
      rw [e, List.all_cons, Bool.and_eq_false_iff]
      left
      refine dB_no (fun h => hd ?_)
      have := (h1 (by omega)).1
      omega
    · right
      exact not_digits t (fun x hx => hm x (by simp [hx])) ha

theorem numB_numb {l : List UInt8} (vs : List Ru) (hm : ∀ v ∈ vs, v ∈ runes l) : numB (byt vs) = numb vs := by
  cases ha : vs.all (fun v => dgt v.1) with
  | false =>
    rw [numB_not (not_digits vs hm ha)]
    unfold numb
    rw [ha]; simp
  | true =>
    obtain ⟨i1, i2, i3, i4⟩ := digits_bytes vs hm ha
    unfold numB numb
    rw [i1, i2, i3, ha]
    by_cases hn : vs = []
    · subst hn; rfl
    · have h4 := i4 hn
      have h5 : decide (((byt vs).headD 0).toNat = 48) = decide ((vs.headD (0, [])).1 = 48) := by
        match vs, hn with
        | v :: t, _ =>
          simp only [List.all_cons, Bool.and_eq_true] at ha
          have hd : 48 ≤ v.1 ∧ v.1 ≤ 57 := of_decide_eq_true ha.1
          have h6 : ((byt (v :: t)).headD 0).toNat = v.1.toNat := h4
          show decide (((byt (v :: t)).headD 0).toNat = 48) = decide (v.1 = 48)
          by_cases hq : v.1 = 48
          · rw [decide_eq_true hq]; exact decide_eq_true (by omega)
          · rw [decide_eq_false hq]; exact decide_eq_false (by omega)
      rw [h5]

/-- Two cells of a block stay behind a call. -/
theorem keep2 {w w' : World} {X : Nat} {a b : Value} (hb : Below w.heap.size w w') (h0 : w.cell? ⟨X, 0, none⟩ = some a) (h1 : w.cell? ⟨X, 1, none⟩ = some b) (f0 : w.frozen? ⟨X, 0, none⟩ = false) (f1 : w.frozen? ⟨X, 1, none⟩ = false) :
    w'.cell? ⟨X, 0, none⟩ = some a ∧ w'.cell? ⟨X, 1, none⟩ = some b ∧ w'.frozen? ⟨X, 0, none⟩ = false ∧ w'.frozen? ⟨X, 1, none⟩ = false := by
  have hX := World.block_lt_of_cell? w _ h0
  have hX' : X < w.heap.size := hX
  refine ⟨?_, ?_, ?_, ?_⟩
  · rw [hb.cell (p := ⟨X, 0, none⟩) hX']; exact h0
  · rw [hb.cell (p := ⟨X, 1, none⟩) hX']; exact h1
  · rw [hb.frozen (p := ⟨X, 0, none⟩) hX']; exact f0
  · rw [hb.frozen (p := ⟨X, 1, none⟩) hX']; exact f1

theorem new2 (w : World) (a b : Value) (T : TypeId) (n : Nat) (hn : n = w.heap.size) : (w.alloc (.cells #[a, b] T)).cell? ⟨n, 0, none⟩ = some a ∧ (w.alloc (.cells #[a, b] T)).cell? ⟨n, 1, none⟩ = some b ∧ (w.alloc (.cells #[a, b] T)).frozen? ⟨n, 0, none⟩ = false ∧ (w.alloc (.cells #[a, b] T)).frozen? ⟨n, 1, none⟩ = false := by
  subst hn
  refine ⟨by simp, by simp, by simp, by simp⟩

/-- A block of two cells. -/
def At (w : World) (X : Nat) (a b : Value) : Prop := w.cell? ⟨X, 0, none⟩ = some a ∧ w.cell? ⟨X, 1, none⟩ = some b ∧ w.frozen? ⟨X, 0, none⟩ = false ∧ w.frozen? ⟨X, 1, none⟩ = false

theorem At.keep {w w' : World} {X : Nat} {a b : Value} (h : At w X a b) (hb : Below w.heap.size w w') : At w' X a b := keep2 hb h.1 h.2.1 h.2.2.1 h.2.2.2

theorem cell_same {w : World} {p : Addr} {u v : Value} (h : w.cell? p = some u) : (w.setCell p v).cell? p = some v := World.cell?_setCell_same' w _ v (by rw [h]; rfl)

theorem cell_far {w : World} {X i Y j : Nat} {u v : Value} (hne : ¬ (X = Y ∧ i = j)) (h : w.cell? ⟨Y, j, none⟩ = some u) : (w.setCell ⟨X, i, none⟩ v).cell? ⟨Y, j, none⟩ = some u :=
  (World.cell?_setCell_other w ⟨X, i, none⟩ ⟨Y, j, none⟩ v (by simp; intro h1 h2; exact hne ⟨h1, h2⟩)).trans h

theorem At.set0 {w : World} {X : Nat} {a b : Value} (h : At w X a b) (v : Value) : At (w.setCell ⟨X, 0, none⟩ v) X v b :=
  ⟨cell_same h.1, cell_far (by omega) h.2.1, (World.frozen?_setCell _ _ _ _).trans h.2.2.1, (World.frozen?_setCell _ _ _ _).trans h.2.2.2⟩

theorem At.set1 {w : World} {X : Nat} {a b : Value} (h : At w X a b) (v : Value) : At (w.setCell ⟨X, 1, none⟩ v) X a v :=
  ⟨cell_far (by omega) h.1, cell_same h.2.1, (World.frozen?_setCell _ _ _ _).trans h.2.2.1, (World.frozen?_setCell _ _ _ _).trans h.2.2.2⟩

theorem At.far {w : World} {X Y i : Nat} {a b : Value} (h : At w Y a b) (hne : X ≠ Y) (v : Value) : At (w.setCell ⟨X, i, none⟩ v) Y a b :=
  ⟨cell_far (by omega) h.1, cell_far (by omega) h.2.1, (World.frozen?_setCell _ _ _ _).trans h.2.2.1, (World.frozen?_setCell _ _ _ _).trans h.2.2.2⟩

theorem At.new (w : World) (a b : Value) (T : TypeId) (n : Nat) (hn : n = w.heap.size) : At (w.alloc (.cells #[a, b] T)) n a b := new2 w a b T n hn

/-- A word's text. -/
def txt (seg : List Ru) : ByteArray := ⟨(byt seg).toArray⟩

def celW (x : Wd) : List Value := [.int .i64 (x.1 : Int), .string (txt x.2.1), .int .i64 x.2.2.1, .int .i64 x.2.2.2]

def celsW (l : List Wd) : List Value := l.flatMap celW

/-- The slice value v is the call's own, from block base on, and holds the words l. -/
def OwnW (w : World) (base e : Nat) (v : Value) (l : List Wd) : Prop := w.ownsRow base e 4 v l.length (celsW l)

theorem OwnW.below {w w' : World} {base e : Nat} {v : Value} {l : List Wd} {B : Nat} (h : OwnW w base e v l) (hb : Below B w w') (hB : w.heap.size ≤ B) : OwnW w' base e v l := by
  refine ⟨h.1, ?_⟩
  rcases h.2 with hn | ⟨g, cap, cur, rfl, hbg, hg, rest⟩
  · exact .inl hn
  · refine .inr ⟨g, cap, cur, rfl, hbg, ?_, rest⟩
    rw [hb.block g (by have := (Array.getElem?_eq_some_iff.1 hg).1; omega)]
    exact hg

theorem OwnW.set {w : World} {base e : Nat} {v : Value} {l : List Wd} (h : OwnW w base e v l) {a : Addr} (ha : a.block < base) (u : Value) : OwnW (w.setCell a u) base e v l := ownsRow_setCell_below h ha u

theorem OwnW.base {w : World} {base base' e : Nat} {v : Value} {l : List Wd} (h : OwnW w base e v l) (hb : base' ≤ base) : OwnW w base' e v l :=
  ⟨h.1, h.2.elim Or.inl (fun ⟨g, cap, cur, hv, hg, r⟩ => Or.inr ⟨g, cap, cur, hv, Nat.le_trans hb hg, r⟩)⟩

/-- The first rune is an ASCII sign just if the first byte is. -/
theorem head_is (c : UInt8) (r : List UInt8) {k : Nat} (hk : k < 128) : (nx (c :: r)).1 = (k : Int) ↔ c.toNat = k := by
  by_cases h : c.toNat < 128
  · rw [nx_ascii h]; simp only; omega
  · have := nx_big h r
    constructor
    · intro e; omega
    · intro e; omega

theorem runes_small {c : UInt8} (r : List UInt8) {k : Nat} (hk : k < 128) (h : c.toNat = k) : runes (c :: r) = ((k : Int), [c]) :: runes r := by
  rw [runes_ascii (by omega), h]

theorem At.keepB {w w' : World} {X B : Nat} {a b : Value} (h : At w X a b) (hb : Below B w w') (hX : X < B) : At w' X a b := by
  refine ⟨?_, ?_, ?_, ?_⟩
  · rw [hb.cell (p := ⟨X, 0, none⟩) hX]; exact h.1
  · rw [hb.cell (p := ⟨X, 1, none⟩) hX]; exact h.2.1
  · rw [hb.frozen (p := ⟨X, 0, none⟩) hX]; exact h.2.2.1
  · rw [hb.frozen (p := ⟨X, 1, none⟩) hX]; exact h.2.2.2

/-- Runes up to the line's end that lie behind us: j of them. -/
structure Rem (R : List Ru) (j : Nat) (l : List UInt8) : Prop where
  left : runes l = R.drop j
  cnt : rest R = j + rest (runes l)

theorem Rem.zero {l : List UInt8} : Rem (runes l) 0 l := ⟨rfl, by omega⟩

theorem Rem.step {R : List Ru} {j : Nat} {c : UInt8} {r : List UInt8} (h : Rem R j (c :: r)) (hc : c.toNat ≠ 10) : Rem R (j + 1) ((c :: r).drop (nx (c :: r)).2) := by
  have hcs := runes_cons (l := c :: r) (by simp)
  have hd : R.drop (j + 1) = runes ((c :: r).drop (nx (c :: r)).2) := by
    have := congrArg List.tail (h.left.symm.trans hcs)
    rw [List.tail_drop, List.tail_cons] at this
    exact this
  refine ⟨hd.symm, ?_⟩
  have hne : ¬ (nx (c :: r)).1 = 10 := fun e => hc ((head_is c r (k := 10) (by omega)).1 e)
  rw [h.cnt, hcs]
  show j + (if (nx (c :: r)).1 = 10 then 0 else rest _ + 1) = _
  rw [if_neg hne]
  omega

theorem Rem.stop {R : List Ru} {j : Nat} {c : UInt8} {r : List UInt8} (h : Rem R j (c :: r)) (hc : c.toNat = 10) : rest R = j := by
  rw [h.cnt, runes_small r (k := 10) (by omega) hc]
  rfl



/-- An expression, with its depth. -/
abbrev Sx := (d : Nat) × T d
def turn {a b : Nat} (h : a = b) (t : T a) : T b := h ▸ t
/-- A function of expressions, by what it makes of a node and of its parts. -/
def foldS {α : Type} (f : Int → Int → ByteArray → List α → α) (x : Sx) : α := fold f x.1 x.2
def ClX (x : Sx) : Prop := Cl x.1 x.2
/-- The nodes, each ahead of its parts, with their number. -/
def enc : (d : Nat) → T d → List (Int × Int × ByteArray × Nat) := fold (fun k n s l => (k, n, s, l.length) :: l.flatten)

/-- A word: its kind, and its bytes. -/
abbrev Tk := Nat × List UInt8
/-- How strongly an operator binds; 0: it is none. -/
def lv (s : List UInt8) : Nat := if s = [124, 124] then 1 else if s = [38, 38] then 2 else if s = [60] ∨ s = [60, 61] ∨ s = [61, 61] ∨ s = [33, 61] then 3 else if s = [43] ∨ s = [45] then 4 else if s = [42] then 5 else 0
section
variable (nb : List UInt8 → Int) (rsv : List UInt8 → Bool) (l : List Tk)
end

/-- All folds take it for the same. -/
def Alk (x : Sx) {d : Nat} (t : T d) : Prop := (∀ (α : Type) (g : Int → Int → ByteArray → List α → α), foldS g x = fold g d t) ∧ (Cl d t → ClX x)
theorem Alk.of {d : Nat} (t : T d) : Alk ⟨d, t⟩ t := ⟨fun _ _ => rfl, id⟩
section
variable {nb : List UInt8 → Int} {rsv : List UInt8 → Bool} {l : List Tk}
variable {dc : Int → List UInt8}
end

section
variable (leaf : Tk → Option Sx)
end
section
variable {leaf : Tk → Option Sx} {l : List Tk}
end
section
variable {nb : List UInt8 → Int} {rsv : List UInt8 → Bool} {l : List Tk}
end

/-- What stands behind: nothing, a blank or a bracket. -/
def Post (post : List UInt8) : Prop := post = [] ∨ ∃ c r, post = c :: r ∧ (c = 32 ∨ c = 41 ∨ c = 10)
theorem Post.fst {a post : List UInt8} (ha : a ≠ []) (h : Post post) : runes (a ++ post) = runes a ++ runes post ∧ fst1 (runes a ++ runes post) = fst1 (runes a) := by
  rcases h with rfl | ⟨c, r, rfl, hc⟩
  · rw [List.append_nil, runes_nil, List.append_nil]; exact ⟨rfl, rfl⟩
  · have hc8 : c.toNat < 128 := by rcases hc with rfl | rfl | rfl <;> decide
    have hr := runes_stop a.length a (Nat.le_refl _) hc8 r
    have hne : runes a ≠ [] := by rw [runes_cons ha]; simp
    refine ⟨hr, ?_⟩
    rw [runes_ascii hc8]
    refine fst1_stop ?_ _ _ hne
    rcases hc with rfl | rfl | rfl
    · exact ⟨by decide, by decide, by decide, by decide⟩
    · exact ⟨by decide, by decide, by decide, by decide⟩
    · exact ⟨by decide, by decide, by decide, by decide⟩



/-- The runes are one word of this kind, and no more. -/
structure OneW (K : Nat) (seg : List Ru) : Prop where
  k : K ≠ 0
  f : fst1 seg = (K, seg.length)
  g : ∀ v ∈ seg, Good v
  h : ∃ v t, seg = v :: t ∧ v.1 ≠ 10 ∧ v.1 ≠ 32 ∧ v.1 ≠ 9 ∧ v.1 ≠ 35
  l : (byt seg).length ≤ 12000
theorem OneW.runes {K : Nat} {seg : List Ru} (h : OneW K seg) : runes (byt seg) = seg := by
  have := runes_goods seg [] h.g
  rw [List.append_nil, runes_nil, List.append_nil] at this
  exact this
/-- A word's text has that word alone. -/
theorem OneW.words {K : Nat} {seg : List Ru} (h : OneW K seg) : wordsS (byt seg) = ([(K, seg, 1, 1)], (0, 0), 0) := by
  have hr := h.runes
  have hl := h.l
  have hf := h.f
  have hk := h.k
  unfold wordsS
  rw [if_neg (by omega), hr]
  obtain ⟨v, t, e, h1, h2, h3, h4⟩ := h.h
  rw [e] at hf ⊢
  rw [wrds_cons, if_neg h1, if_neg (fun q => q.elim h2 h3), if_neg h4, hf, if_neg hk, if_neg (by decide), List.take_length, List.drop_length, wrds_nil]
  rfl
theorem OneW.kind {K : Nat} {seg : List Ru} (h : OneW K seg) : (K = 1 ∧ nameS (byt seg) = true) ∨ (K = 2 ∧ numB (byt seg) = true) ∨ (K = 3 ∧ ∃ v t, seg = v :: t ∧ letter v.1 = false ∧ dgt v.1 = false) := by
  have hr := h.runes
  have hf := h.f
  have hk := h.k
  obtain ⟨v, t, e, _⟩ := h.h
  have hbne : byt seg ≠ [] := fun e0 => by rw [e0, runes_nil] at hr; rw [← hr] at e; cases e
  have hnx : (nx (byt seg)).1 = v.1 := by
    have := runes_cons hbne
    rw [hr, e] at this
    injection this with h1 _
    rw [e]
    exact (congrArg Prod.fst h1).symm
  rw [e, fst1_cons, ← e] at hf
  by_cases a : letter v.1 = true
  · rw [if_pos a] at hf
    by_cases b : spn seg ≤ 24
    · rw [if_pos b] at hf
      injection hf with h1 h2
      left
      refine ⟨h1.symm, ?_⟩
      unfold nameS
      have hs : spb (byt seg) = (byt seg).length := by unfold spb; rw [hr, h2, List.take_length]
      rw [hnx, a, hs, hr, decide_eq_true b]; simp
    · rw [if_neg b] at hf
      injection hf with h1 _
      exact absurd h1.symm hk
  · rw [if_neg a] at hf
    by_cases d : dgt v.1 = true
    · rw [if_pos d] at hf
      by_cases b : numb (seg.take (spn seg)) = true
      · rw [if_pos b] at hf
        injection hf with h1 h2
        right; left
        refine ⟨h1.symm, ?_⟩
        rw [h2, List.take_length] at b
        rw [numB_numb (l := byt seg) seg (fun v hv => by rw [hr]; exact hv)]
        exact b
      · rw [if_neg b] at hf
        injection hf with h1 _
        exact absurd h1.symm hk
    · rw [if_neg d] at hf
      by_cases b : sgn seg = 0
      · rw [if_pos b] at hf
        injection hf with h1 _
        exact absurd h1.symm hk
      · rw [if_neg b] at hf
        injection hf with h1 _
        right; right
        exact ⟨h1.symm, v, t, e, by simpa using a, by simpa using d⟩
section
variable {nb : List UInt8 → Int} {rsv : List UInt8 → Bool} {l : List Tk} {Q : Nat → Nat → Sx → Prop}
end

/-- Nothing but block X has turned, and new blocks. -/
abbrev Fx (X : Nat) (w w' : World) : Prop := w.grownBy w' (some X)
theorem Fx.refl (X : Nat) (w : World) : Fx X w w := ⟨rfl, rfl, rfl, Nat.le_refl _, fun _ _ _ => rfl⟩
theorem Fx.trans {X : Nat} {a b c : World} (h : Fx X a b) (k : Fx X b c) : Fx X a c :=
  ⟨k.os.trans h.os, k.tape.trans h.tape, k.output.trans h.output, Nat.le_trans h.size k.size, fun j hj hne => (k.block j (Nat.lt_of_lt_of_le hj h.size) hne).trans (h.block j hj hne)⟩
theorem Fx.of {X B : Nat} {a b : World} (h : Below B a b) (hB : a.heap.size ≤ B) : Fx X a b := ⟨h.os, h.tape, h.output, h.size, fun k hk _ => h.block k (by omega)⟩
theorem Fx.setX {X i : Nat} {a b : World} (h : Fx X a b) (u : Value) : Fx X a (b.setCell ⟨X, i, none⟩ u) :=
  ⟨h.os, h.tape, h.output, by simpa using h.size, fun k hk hne => (Below.heap_setCell _ _ _ _ (fun e => hne (congrArg some e))).trans (h.block k hk hne)⟩
theorem Fx.drewN {X : Nat} {a b : World} (h : Fx X a b) (m : Nat) : Fx X a (b.drewN m) := ⟨h.os, h.tape, h.output, h.size, h.block⟩
theorem Fx.drew {X : Nat} {a b : World} (h : Fx X a b) : Fx X a b.drew := ⟨h.os, h.tape, h.output, h.size, h.block⟩
theorem Fx.alloc {X : Nat} {a b : World} (h : Fx X a b) (o : Obj) : Fx X a (b.alloc o) := h.trans (Fx.of ((Below.refl b.heap.size b).alloc (Nat.le_refl _) o) (Nat.le_refl _))
theorem Fx.below {X : Nat} {a b : World} (h : Fx X a b) {B : Nat} (hB : B ≤ X) (hs : B ≤ a.heap.size) : Below B a b := ⟨h.os, h.tape, h.output, h.size, fun k hk => h.block k (by omega) (fun e => by have : k = X := Option.some.inj e; omega)⟩
/-- A new block's cells, written. -/
theorem Fx.setN {X N i : Nat} {a b : World} (h : Fx X a b) (hN : a.heap.size ≤ N) (u : Value) : Fx X a (b.setCell ⟨N, i, none⟩ u) :=
  ⟨h.os, h.tape, h.output, by simpa using h.size, fun k hk hne => (Below.heap_setCell _ _ _ _ (fun e => by have : k = N := e; omega)).trans (h.block k hk hne)⟩
/-- The words, in memory apart from X. -/
def RdL (w : World) (X : Nat) (a : Option Addr) (ws : List Wd) : Prop := ∀ (i : Nat) (hi : i < ws.length), ∃ g off, a = some ⟨g, off, none⟩ ∧ g < X ∧ w.cell? ⟨g, off + i * 4, none⟩ = some (.int .i64 ((ws[i]).1 : Int)) ∧ w.cell? ⟨g, off + i * 4 + 1, none⟩ = some (.string (txt (ws[i]).2.1)) ∧ w.cell? ⟨g, off + i * 4 + 2, none⟩ = some (.int .i64 (ws[i]).2.2.1) ∧ w.cell? ⟨g, off + i * 4 + 3, none⟩ = some (.int .i64 (ws[i]).2.2.2)
theorem RdL.fx {w w' : World} {X : Nat} {a : Option Addr} {ws : List Wd} (h : RdL w X a ws) (hX : X < w.heap.size) (hf : Fx X w w') : RdL w' X a ws := fun i hi => by
  obtain ⟨g, off, h1, h3, c0, c1, c2, c3⟩ := h i hi
  have hb : w'.heap[g]? = w.heap[g]? := hf.block g (by omega) (fun e => by have : g = X := Option.some.inj e; omega)
  have hc : ∀ j, w'.cell? ⟨g, j, none⟩ = w.cell? ⟨g, j, none⟩ := fun j => World.cell?_of_block (w := w) (a := ⟨g, j, none⟩) hb
  exact ⟨g, off, h1, h3, (hc _).trans c0, (hc _).trans c1, (hc _).trans c2, (hc _).trans c3⟩
/-- The reader in block X. -/
structure Rr (w : World) (X : Nat) (a : Option Addr) (cap : Nat) (ws : List Wd) (n : Nat) (b : Int) : Prop where
  c0 : w.cell? ⟨X, 0, none⟩ = some (.slice a ws.length cap)
  c1 : w.cell? ⟨X, 1, none⟩ = some (.int .i64 (n : Int))
  c2 : w.cell? ⟨X, 2, none⟩ = some (.int .i64 b)
  f1 : w.frozen? ⟨X, 1, none⟩ = false
  f2 : w.frozen? ⟨X, 2, none⟩ = false
  l : RdL w X a ws
theorem Rr.lt {w : World} {X : Nat} {a : Option Addr} {cap : Nat} {ws : List Wd} {n : Nat} {b : Int} (h : Rr w X a cap ws n b) : X < w.heap.size := World.block_lt_of_cell? w _ h.c0
theorem Rr.on {w w' : World} {X : Nat} {a : Option Addr} {cap : Nat} {ws : List Wd} {n : Nat} {b : Int} (h : Rr w X a cap ws n b) (hb : Below w.heap.size w w') : Rr w' X a cap ws n b := by
  have hX := h.lt
  have hc : ∀ i, w'.cell? ⟨X, i, none⟩ = w.cell? ⟨X, i, none⟩ := fun i => hb.cell (p := ⟨X, i, none⟩) hX
  have hf : ∀ i, w'.frozen? ⟨X, i, none⟩ = w.frozen? ⟨X, i, none⟩ := fun i => hb.frozen (p := ⟨X, i, none⟩) hX
  exact ⟨(hc 0).trans h.c0, (hc 1).trans h.c1, (hc 2).trans h.c2, (hf 1).trans h.f1, (hf 2).trans h.f2, h.l.fx hX (Fx.of hb (Nat.le_refl _))⟩
theorem Rr.set1 {w : World} {X : Nat} {a : Option Addr} {cap : Nat} {ws : List Wd} {n : Nat} {b : Int} (h : Rr w X a cap ws n b) (n' : Nat) : Rr (w.setCell ⟨X, 1, none⟩ (.int .i64 (n' : Int))) X a cap ws n' b :=
  ⟨cell_far4 (by omega) h.c0, cell_same4 h.c1, cell_far4 (by omega) h.c2, (World.frozen?_setCell _ _ _ _).trans h.f1, (World.frozen?_setCell _ _ _ _).trans h.f2, h.l.fx h.lt ((Fx.refl X w).setX _)⟩
theorem Rr.set2 {w : World} {X : Nat} {a : Option Addr} {cap : Nat} {ws : List Wd} {n : Nat} {b : Int} (h : Rr w X a cap ws n b) (b' : Int) : Rr (w.setCell ⟨X, 2, none⟩ (.int .i64 b')) X a cap ws n b' :=
  ⟨cell_far4 (by omega) h.c0, cell_far4 (by omega) h.c1, cell_same4 h.c2, (World.frozen?_setCell _ _ _ _).trans h.f1, (World.frozen?_setCell _ _ _ _).trans h.f2, h.l.fx h.lt ((Fx.refl X w).setX _)⟩
theorem draws (w : World) (m : Nat) : Below w.heap.size w (w.drewN m) := ⟨rfl, rfl, rfl, Nat.le_refl _, fun _ _ => rfl⟩
theorem Rr.far {w : World} {X N i : Nat} {a : Option Addr} {cap : Nat} {ws : List Wd} {n : Nat} {b : Int} (h : Rr w X a cap ws n b) (hN : X < N) (u : Value) : Rr (w.setCell ⟨N, i, none⟩ u) X a cap ws n b := by
  refine ⟨cell_far4 (by omega) h.c0, cell_far4 (by omega) h.c1, cell_far4 (by omega) h.c2, (World.frozen?_setCell _ _ _ _).trans h.f1, (World.frozen?_setCell _ _ _ _).trans h.f2, fun j hj => ?_⟩
  obtain ⟨g, off, h1, h3, d0, d1, d2, d3⟩ := h.l j hj
  exact ⟨g, off, h1, h3, cell_far4 (by omega) d0, cell_far4 (by omega) d1, cell_far4 (by omega) d2, cell_far4 (by omega) d3⟩
end Go.Proofs.Ytpblcahcpobicaa
