
/- Trees in memory. -/
import Derived.Test.YtdekboacjjpjeaaExM
import Derived.Test.YtdekboacjjpjeaaBytes
namespace Go.Proofs.Ytdekboacjjpjeaa
open Go.RowKit
set_option linter.unusedSimpArgs false
set_option linter.unusedVariables false

theorem add_plain (b off i : Nat) : (⟨b, off, none⟩ : Addr).add i = ⟨b, off + i, none⟩ := by unfold Addr.add; split <;> simp_all

/-- The slice v reads as the list l, four cells an element. -/
def RdP {α : Type} (ok : Nat → Prop) (w : World) (R : α → Value → Prop) (l : List α) (v : Value) : Prop :=
  ∃ a cap, v = .slice a l.length cap ∧ l.length ≤ cap ∧ cap ≤ maxLen ∧ (a = none → l = []) ∧
    ∀ x, a = some x → ∀ (i : Nat) (h : i < l.length), ok x.block ∧ ∃ c0 c1 c2 c3, R l[i] (.agg #[c0, c1, c2, c3]) ∧ w.cell? (x.add (i * 4)) = some c0 ∧ w.cell? (x.add (i * 4 + 1)) = some c1 ∧ w.cell? (x.add (i * 4 + 2)) = some c2 ∧ w.cell? (x.add (i * 4 + 3)) = some c3
/-- The value v reads as the tree t. -/
def RdT (ok : Nat → Prop) (w : World) : (d : Nat) → T d → Value → Prop
  | 0, t, _ => Empty.elim t
  | d + 1, t, v => ∃ sl, v = .agg #[.int .i64 (show Int × Int × ByteArray × List (T d) from t).1, .int .i64 (show Int × Int × ByteArray × List (T d) from t).2.1, .string (show Int × Int × ByteArray × List (T d) from t).2.2.1, sl] ∧ RdP ok w (RdT ok w d) (show Int × Int × ByteArray × List (T d) from t).2.2.2 sl
theorem rdT_mk {ok : Nat → Prop} {w : World} {d : Nat} {k n : Int} {s : ByteArray} {ps : List (T d)} {v : Value} : RdT ok w (d + 1) (mkT k n s ps) v ↔ ∃ sl, v = .agg #[.int .i64 k, .int .i64 n, .string s, sl] ∧ RdP ok w (RdT ok w d) ps sl := Iff.rfl

theorem keep_cell {w w' : World} {p : Addr} {u : Value} (h : w'.heap[p.block]? = w.heap[p.block]?) (hc : w.cell? p = some u) : w'.cell? p = some u := by
  unfold World.cell? at hc ⊢
  rw [h]
  exact hc
theorem add_block (x : Addr) (i : Nat) : (x.add i).block = x.block := by unfold Addr.add; split <;> rfl
/-- What is read stays where its blocks stay. -/
theorem RdP.keep {α : Type} {ok ok' : Nat → Prop} {w w' : World} {R R' : α → Value → Prop} {l : List α} {v : Value} (h : RdP ok w R l v) (hR : ∀ x ∈ l, ∀ u, R x u → R' x u) (hk : ∀ b, ok b → b < w.heap.size → ok' b ∧ w'.heap[b]? = w.heap[b]?) : RdP ok' w' R' l v := by
  obtain ⟨a, cap, rfl, hc, hm, hn, hcell⟩ := h
  refine ⟨a, cap, rfl, hc, hm, hn, fun x hx i hi => ?_⟩
  obtain ⟨ho, c0, c1, c2, c3, h0, h1, h2, h3, h4⟩ := hcell x hx i hi
  have hb : x.block < w.heap.size := by
    have := World.block_lt_of_cell? w _ h1
    rw [add_block] at this
    exact this
  obtain ⟨ho', hs⟩ := hk _ ho hb
  have kk : ∀ j u, w.cell? (x.add j) = some u → w'.cell? (x.add j) = some u := fun j u hu => keep_cell (by rw [add_block]; exact hs) hu
  exact ⟨ho', c0, c1, c2, c3, hR _ (List.getElem_mem hi) _ h0, kk _ _ h1, kk _ _ h2, kk _ _ h3, kk _ _ h4⟩
theorem RdT.keep {ok ok' : Nat → Prop} {w w' : World} (hk : ∀ b, ok b → b < w.heap.size → ok' b ∧ w'.heap[b]? = w.heap[b]?) : ∀ {d : Nat} {t : T d} {v : Value}, RdT ok w d t v → RdT ok' w' d t v
  | 0, t, v, h => Empty.elim t
  | d + 1, t, v, h => by
    obtain ⟨sl, hv, hp⟩ := h
    exact ⟨sl, hv, hp.keep (fun x _ u hu => RdT.keep hk hu) hk⟩
theorem RdT.below {ok : Nat → Prop} {w w' : World} {B : Nat} (hb : Below B w w') (hB : w.heap.size ≤ B) {d : Nat} {t : T d} {v : Value} (h : RdT ok w d t v) : RdT ok w' d t v :=
  RdT.keep (fun b ho hl => ⟨ho, hb.block b (by omega)⟩) h
theorem RdP.below {ok : Nat → Prop} {w w' : World} {d : Nat} {l : List (T d)} {v : Value} {B : Nat} (h : RdP ok w (RdT ok w d) l v) (hb : Below B w w') (hB : w.heap.size ≤ B) : RdP ok w' (RdT ok w' d) l v :=
  h.keep (fun x _ u hu => RdT.below hb hB hu) (fun b ho hl => ⟨ho, hb.block b (by omega)⟩)
/-- Where its elements lie. -/
theorem RdP.form {α : Type} {ok : Nat → Prop} {w : World} {R : α → Value → Prop} {l : List α} {v : Value} (h : RdP ok w R l v) : ∃ a cap, v = .slice a l.length cap ∧ l.length ≤ cap ∧ cap ≤ 9223372036854775807 ∧
    ∀ (i : Nat) (hi : i < l.length), ∃ b off c0 c1 c2 c3, a = some ⟨b, off, none⟩ ∧ b < w.heap.size ∧ R l[i] (.agg #[c0, c1, c2, c3]) ∧ w.cell? ⟨b, off + i * 4, none⟩ = some c0 ∧ w.cell? ⟨b, off + i * 4 + 1, none⟩ = some c1 ∧ w.cell? ⟨b, off + i * 4 + 2, none⟩ = some c2 ∧ w.cell? ⟨b, off + i * 4 + 3, none⟩ = some c3 := by
  obtain ⟨a, cap, rfl, hc, hm, hn, hcell⟩ := h
  refine ⟨a, cap, rfl, hc, by unfold maxLen at hm; omega, fun i hi => ?_⟩
  cases a with
  | none => have := hn rfl; subst this; simp at hi
  | some x =>
    obtain ⟨b, off, spot⟩ := x
    obtain ⟨_, c0, c1, c2, c3, h0, h1, h2, h3, h4⟩ := hcell _ rfl i hi
    obtain ⟨_, _, _, _, _, _, z1, _⟩ := hcell _ rfl 0 (by omega)
    have hspot : spot = none := by simpa [Addr.add] using World.cell?_spot z1
    subst hspot
    rw [add_plain] at h1 h2 h3 h4
    exact ⟨b, off, c0, c1, c2, c3, rfl, World.block_lt_of_cell? w _ h1, h0, h1, h2, h3, h4⟩

/-- A block of four cells, read alone. -/
def At4 (w : World) (X : Nat) (a b c e : Value) : Prop := w.cell? ⟨X, 0, none⟩ = some a ∧ w.cell? ⟨X, 1, none⟩ = some b ∧ w.cell? ⟨X, 2, none⟩ = some c ∧ w.cell? ⟨X, 3, none⟩ = some e
theorem At4.keepB {w w' : World} {X B : Nat} {a b c e : Value} (h : At4 w X a b c e) (hb : Below B w w') (hX : X < B) : At4 w' X a b c e := by
  refine ⟨?_, ?_, ?_, ?_⟩
  · rw [hb.cell (p := ⟨X, 0, none⟩) hX]; exact h.1
  · rw [hb.cell (p := ⟨X, 1, none⟩) hX]; exact h.2.1
  · rw [hb.cell (p := ⟨X, 2, none⟩) hX]; exact h.2.2.1
  · rw [hb.cell (p := ⟨X, 3, none⟩) hX]; exact h.2.2.2
theorem At4.new (w : World) (a b c e : Value) (T : TypeId) : At4 (w.alloc (.cells #[a, b, c, e] T)) w.heap.size a b c e := ⟨by simp, by simp, by simp, by simp⟩
theorem At4.newAt (w : World) (a b c e : Value) (T : TypeId) (n : Nat) (hn : n = w.heap.size) : At4 (w.alloc (.cells #[a, b, c, e] T)) n a b c e := by subst hn; exact At4.new w a b c e T
end Go.Proofs.Ytdekboacjjpjeaa
