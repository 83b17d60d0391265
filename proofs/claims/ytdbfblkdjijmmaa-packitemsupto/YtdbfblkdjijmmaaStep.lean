/- An append to a slice of the call's own as one step of a region that draws its order; a new block of three cells behind a call. -/
import Derived.Test.YtdbfblkdjijmmaaItems
import Derived.Deep.RegionHeldLaw
import Derived.Deep.DrawnRows
namespace Go.Proofs.Ytdbfblkdjijmmaa
open Go.RowKit
set_option linter.unusedSimpArgs false
set_option linter.unusedVariables false

theorem step_append_both {P : Program} (w : World) {ops : Array Oper} {o : Oper} {a : Act} {K : Act → World → Prop} {Q : Exit → Act → World → Prop} {E : Prop} (hgd : o.guard = none) (s x : Operand) (t tx : TypeId)
    (ho : o.op = .call { callee := .builtin .append, args := #[s, x], argTypes := #[t, tx] })
    (base : Nat) (e : TypeId) (i : TypeInfo) (z : Value) (size bytes : Nat) (ht : P.underlying t = some (.slice e)) (hi : P.info? e = some i) (hz : i.zero = some z)
    (hsize : i.size = size) (hby : i.bytes = bytes) (hzs : z.cells.size = size)
    (v : Value) (n : Nat) (xs : List Value) (hs : a.eval s = v) (hown : w.ownsRow base e size v n xs)
    (xv : Value) (m : Nat) (news : List Value) (hx : a.eval x = xv) (hsrc : Src P size tx xv m news w) (r : Nat) (hroom : Room bytes v n r) (hm : m ≤ r)
    (h63 : n + r ≤ maxLen) (hbase : base ≤ w.heap.size)
    (h : ∀ v' w', w'.ownsRow base e size v' (n + m) (xs ++ news) → w.grownBy w' v.ownBlock → Room bytes v' (n + m) (r - m) → K (a.put o.dst v') w') :
    if Region.wanted o (yielded ops a.tmps) = true then Oper.wp P o a w K Q else E := by
  have hw : Region.wanted o (yielded ops a.tmps) = true := by simp [Region.wanted, hgd]
  rw [if_pos hw]
  obtain ⟨v', w', hr, h2, h3, h4⟩ := run_append_both (P := P) w base t tx o.type e i z size bytes ht hi hz hsize hby hzs v n xs hown xv m news hsrc r hroom hm h63 hbase
  unfold Oper.wp execOp
  simp only [ho, resolve, invoke, builtin, Sem.run_bind, Sem.run_pure, Result.andThen_ok, List.map_toArray, List.map_cons, List.map_nil, hs, hx, hr]
  exact h v' w' h2 h3 h4

/-- A block of three cells that was laid ahead of a call. -/
theorem laid3 {wr w1 : World} {T : TypeId} {a0 a1 a2 : Value} {B : Nat} (hB : B = wr.heap.size + 1) (hb : Below B (wr.alloc (.cells #[a0, a1, a2] T)) w1) :
    w1.cell? ⟨wr.heap.size, 0, none⟩ = some a0 ∧ w1.cell? ⟨wr.heap.size, 1, none⟩ = some a1 ∧ w1.cell? ⟨wr.heap.size, 2, none⟩ = some a2 ∧
    w1.frozen? ⟨wr.heap.size, 0, none⟩ = false ∧ w1.frozen? ⟨wr.heap.size, 1, none⟩ = false ∧ w1.frozen? ⟨wr.heap.size, 2, none⟩ = false ∧ wr.heap.size < w1.heap.size ∧ Below wr.heap.size wr w1 := by
  subst hB
  have hs := hb.size
  have hs' : wr.heap.size + 1 ≤ w1.heap.size := by simpa using hs
  have hc := fun j => hb.cell (p := ⟨wr.heap.size, j, none⟩) (Nat.lt_succ_self _)
  have hf := fun j => hb.frozen (p := ⟨wr.heap.size, j, none⟩) (Nat.lt_succ_self _)
  refine ⟨?_, ?_, ?_, ?_, ?_, ?_, hs', ((Below.refl _ _).alloc (Nat.le_refl _) _).trans (hb.mono (Nat.le_succ _))⟩
  · rw [hc]; simp
  · rw [hc]; simp
  · rw [hc]; simp
  · rw [hf]; simp
  · rw [hf]; simp
  · rw [hf]; simp

theorem src_item_drew {P : Program} {t e : TypeId} (ht : P.underlying t = some (.slice e)) (w : World) (x : It) :
    Src P 3 t (.slice (some ⟨w.heap.size, 0, none⟩) 1 1) 1 (cel x) (w.alloc (.cells #[.bool x.1, .int .i64 x.2.1, .string x.2.2] e)).drew := by
  have h := World.ownsRow_lit (base := w.heap.size) (e := e) (size := 3) w #[.bool x.1, .int .i64 x.2.1, .string x.2.2] 1 (Nat.le_refl _) (by simp [maxLen]) (by simp)
  exact Src.ofSlice _ ht _ 1 1 _ (by simp [cel]) (by simpa [cel] using h.cells (g := w.heap.size) rfl) (by simp [cel, Value.oneCell'])

theorem set_at {w : World} {X i : Nat} {v c : Value} (h : w.cell? ⟨X, i, none⟩ = some c) : (w.setCell ⟨X, i, none⟩ v).cell? ⟨X, i, none⟩ = some v := World.cell?_setCell_same' w _ v (by rw [h]; rfl)
theorem set_by {w : World} {X i j : Nat} {v c : Value} (hij : i ≠ j) (h : w.cell? ⟨X, j, none⟩ = some c) : (w.setCell ⟨X, i, none⟩ v).cell? ⟨X, j, none⟩ = some c := by
  exact (World.cell?_setCell_other w ⟨X, i, none⟩ ⟨X, j, none⟩ v (by simp [hij])).trans h
/-- Three cells of another block stay behind a new block, a draw and an append. -/
theorem far3 {w2 w3 : World} {o : Obj} {row : Option Nat} {X : Nat} {c0 c1 c2 : Value} (hg : (w2.alloc o).drew.grownBy w3 row) (hne : some X ≠ row)
    (h0 : w2.cell? ⟨X, 0, none⟩ = some c0) (h1 : w2.cell? ⟨X, 1, none⟩ = some c1) (h2 : w2.cell? ⟨X, 2, none⟩ = some c2) :
    w3.cell? ⟨X, 0, none⟩ = some c0 ∧ w3.cell? ⟨X, 1, none⟩ = some c1 ∧ w3.cell? ⟨X, 2, none⟩ = some c2 := by
  have hX := World.block_lt_of_cell? w2 _ h0
  have hh : ∀ i c, w2.cell? ⟨X, i, none⟩ = some c → (w2.alloc o).drew.cell? ⟨X, i, none⟩ = some c := fun i c h => by
    have := (((Below.refl w2.heap.size w2).alloc (Nat.le_refl _) o).drew).cell (p := ⟨X, i, none⟩) hX
    rw [this]; exact h
  exact ⟨hg.cell (hh 0 _ h0) hne, hg.cell (hh 1 _ h1) hne, hg.cell (hh 2 _ h2) hne⟩
end Go.Proofs.Ytdbfblkdjijmmaa
