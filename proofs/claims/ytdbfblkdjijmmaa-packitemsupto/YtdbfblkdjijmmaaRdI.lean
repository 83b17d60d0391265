/- A slice of items, read. -/
import Derived.Test.YtdbfblkdjijmmaaStep
import Derived.Deep.QuietTactic
import Derived.BigQuiet
namespace Go.Proofs.Ytdbfblkdjijmmaa
open Go.RowKit
set_option linter.unusedSimpArgs false
set_option linter.unusedVariables false

/-- The slice value v reads, in w, as the items l. -/
def RdI (w : World) (v : Value) (l : List It) : Prop :=
  ∃ a cap, v = .slice a l.length cap ∧ l.length ≤ cap ∧ cap ≤ maxLen ∧ (a = none → l = []) ∧
    ∀ x, a = some x → ∀ (i : Nat) (h : i < l.length), w.cell? (x.add (i * 3)) = some (.bool (l[i]).1) ∧ w.cell? (x.add (i * 3 + 1)) = some (.int .i64 (l[i]).2.1) ∧ w.cell? (x.add (i * 3 + 2)) = some (.string (l[i]).2.2)

theorem add_plain (b off i : Nat) : (⟨b, off, none⟩ : Addr).add i = ⟨b, off + i, none⟩ := by unfold Addr.add; split <;> simp_all

theorem cels_at : ∀ (l : List It) (i : Nat) (h : i < l.length), (cels l)[i * 3]? = some (.bool (l[i]).1) ∧ (cels l)[i * 3 + 1]? = some (.int .i64 (l[i]).2.1) ∧ (cels l)[i * 3 + 2]? = some (.string (l[i]).2.2)
  | [], i, h => by simp at h
  | x :: r, 0, h => by simp [cels, cel]
  | x :: r, i + 1, h => by
    have ih := cels_at r i (by simpa using h)
    have e : cels (x :: r) = Value.bool x.1 :: Value.int .i64 x.2.1 :: Value.string x.2.2 :: cels r := by simp [cels, cel]
    rw [e, show (i + 1) * 3 = i * 3 + 1 + 1 + 1 by omega]
    simpa using ih

theorem OwnI.rd {w : World} {base e : Nat} {v : Value} {l : List It} (h : OwnI w base e v l) : RdI w v l := by
  have hc := fun g => World.ownsRow.cells h (g := g)
  rcases h.2 with ⟨rfl, hn⟩ | ⟨g, cap, cur, rfl, hb, hg, hnc, hcm, hcs, htake⟩
  · have hx : l = [] := List.eq_nil_of_length_eq_zero hn
    subst hx
    exact ⟨none, 0, rfl, by simp, by simp [maxLen], by simp, fun x hx => by cases hx⟩
  · refine ⟨some ⟨g, 0, none⟩, cap, rfl, hnc, hcm, by simp, ?_⟩
    intro x hx i hi
    obtain rfl := Option.some.inj hx
    obtain ⟨h0, h1, h2⟩ := cels_at l i hi
    exact ⟨hc g rfl _ _ h0, hc g rfl _ _ h1, hc g rfl _ _ h2⟩

theorem RdI.below {w w' : World} {v : Value} {l : List It} {B : Nat} (h : RdI w v l) (hb : Below B w w') (hB : w.heap.size ≤ B) : RdI w' v l := by
  obtain ⟨a, cap, rfl, hc, hm, hn, hcell⟩ := h
  refine ⟨a, cap, rfl, hc, hm, hn, fun x hx i hi => ?_⟩
  have h1 := hcell x hx i hi
  have hk : ∀ p u, w.cell? p = some u → w'.cell? p = some u := fun p u hp => by rw [hb.cell (Nat.lt_of_lt_of_le (World.block_lt_of_cell? w _ hp) hB)]; exact hp
  exact ⟨hk _ _ h1.1, hk _ _ h1.2.1, hk _ _ h1.2.2⟩

theorem RdI.lies {w : World} {v : Value} {l : List It} (h : RdI w v l) (hn : 0 < l.length) :
    ∃ b off cap, v = .slice (some ⟨b, off, none⟩) l.length cap ∧ l.length ≤ cap ∧ cap ≤ maxLen ∧ b < w.heap.size ∧
      ∀ (i : Nat) (h : i < l.length), w.cell? ⟨b, off + i * 3, none⟩ = some (.bool (l[i]).1) ∧ w.cell? ⟨b, off + i * 3 + 1, none⟩ = some (.int .i64 (l[i]).2.1) ∧ w.cell? ⟨b, off + i * 3 + 2, none⟩ = some (.string (l[i]).2.2) := by
  obtain ⟨a, cap, rfl, hc, hm, hnone, hcell⟩ := h
  cases a with
  | none => have := hnone rfl; subst this; simp at hn
  | some x =>
    obtain ⟨b, off, spot⟩ := x
    have h0 := (hcell _ rfl 0 hn).1
    have hspot : spot = none := by simpa [Addr.add] using World.cell?_spot h0
    subst hspot
    rw [add_plain] at h0
    refine ⟨b, off, cap, rfl, hc, hm, World.block_lt_of_cell? w _ h0, fun i hi => ?_⟩
    have := hcell _ rfl i hi
    rw [add_plain, add_plain, add_plain] at this
    exact this

set_option maxHeartbeats 1000000 in
theorem ours_any (v : Value) (l : List It) (w : World) (h : RdI w v l) (hl : l.length ≤ 1048576) (i0 : TypeInfo) (hi : Try.prog.info? 55 = some i0) (hz0 : i0.zero = some (.agg #[.bool false, .int .i64 0, .string ⟨#[]⟩])) (hz1 : i0.size = 3) (hz2 : i0.bytes = 32) :
    Calls Try.prog 22 #[v] w fun e w' => ∃ u, e = .returned u ∧ OwnI w' w.heap.size 55 u l ∧ Below w.heap.size w w' := by
  by_cases hn : l.length = 0
  · obtain rfl : l = [] := List.length_eq_zero_iff.1 hn
    obtain ⟨a, cap, rfl, hc, hm, hnone, hcell⟩ := h
    simp only [List.length_nil]
    go_enter Try.func22, Try.ntmps22
    go_wp2
    refine wp_loop_rounds 1 ?_
    rw [rounds_succ]
    go_wp2
    go_ret
    exact ⟨_, rfl, ownI_nil _ _ _, Below.refl _ _⟩
  · obtain ⟨b, off, cap, rfl, hc, hm, hbl, hcell⟩ := h.lies (by omega)
    have HC : Hid (∀ (i : Nat) (h : i < l.length), w.cell? ⟨b, off + i * 3, none⟩ = some (.bool (l[i]).1) ∧ w.cell? ⟨b, off + i * 3 + 1, none⟩ = some (.int .i64 (l[i]).2.1) ∧ w.cell? ⟨b, off + i * 3 + 2, none⟩ = some (.string (l[i]).2.2)) := hcell
    clear hcell h hn
    unfold maxLen at hm
    go_enter Try.func22, Try.ntmps22
    go_wp2
    go_loopw [3, 7] (fun u i wr => ∃ j : Nat, j ≤ l.length ∧ i = .int .i64 j ∧ OwnI wr w.heap.size 55 u (l.take j) ∧ Below w.heap.size w wr) (fun _ i _ => l.length - (intOf i).toNat)
    case atStart => exact ⟨0, Nat.zero_le _, rfl, ownI_nil _ _ _, Below.refl _ _⟩
    case round =>
      obtain ⟨j, hj, rfl, ho, hbel⟩ := hrel
      by_cases hlt : j < l.length
      · obtain ⟨e0, e1, e2⟩ := HC.out j hlt
        obtain ⟨⟨xt, xn, xs⟩, hx⟩ : ∃ x, x = l[j] := ⟨_, rfl⟩
        rw [← hx] at e0 e1 e2
        have c0 := (hbel.cell (p := ⟨b, off + j * 3, none⟩) hbl).trans e0
        have c1 := (hbel.cell (p := ⟨b, off + j * 3 + 1, none⟩) hbl).trans e1
        have c2 := (hbel.cell (p := ⟨b, off + j * 3 + 2, none⟩) hbl).trans e2
        have htk : (l.take j).length = j := by rw [List.length_take]; omega
        have HT : Hid (l.take (j + 1) = l.take j ++ [(xt, xn, xs)]) := by show _ = _; rw [take_snoc l j hlt, hx]
        have ho2 := ho.alloc (.cells #[.bool xt, .int .i64 xn, .string xs] 55)
        clear e0 e1 e2 hx
        go_wp2_with (first
          | (at_builtin; refine wpList_append_both _ rfl (.tmp 10) (.tmp 15) 37 37 rfl w.heap.size 55 i0 (.agg #[.bool false, .int .i64 0, .string ⟨#[]⟩]) 3 32 Try.underlying37 hi hz0 hz1 hz2 rfl _ (l.take j).length _ rfl ho2 _ 1 (cel (xt, xn, xs)) rfl (src_item Try.underlying37 wr (xt, xn, xs) rfl) 1 (.inr (by omega)) (Nat.le_refl _) (by unfold maxLen; omega) (by have := hbel.size; simp; omega) ?_; intro v3 w3 ho3 hg3 _))
        go_roundw
        case rel => exact ⟨j + 1, hlt, by go_num, by rw [HT.out]; exact ownI_snoc ho3, (hbel.alloc hbel.size _).grown hg3 (by have := hbel.size; simp; omega) (fun k hk => (ho.lt k hk).1)⟩
        case measure => simp [intOf]; omega
      · go_wp2
        go_ret
        rw [List.take_of_length_le (by omega)] at ho
        exact ⟨_, rfl, ho, hbel⟩

set_option maxHeartbeats 1000000 in
theorem same_any (v u : Value) (l : List It) (w : World) (h : RdI w v l) (h' : RdI w u l) (hl : l.length ≤ 1048576) :
    Calls Try.prog 21 #[v, u] w fun e w' => e = .returned (.bool true) ∧ Below w.heap.size w w' := by
  by_cases hn : l.length = 0
  · obtain rfl : l = [] := List.length_eq_zero_iff.1 hn
    obtain ⟨a, cap, rfl, hc, hm, hnone, hcell⟩ := h
    obtain ⟨a', cap', rfl, hc', hm', hnone', hcell'⟩ := h'
    simp only [List.length_nil]
    go_enter Try.func21, Try.ntmps21
    go_wp2
    refine wp_loop_rounds 1 ?_
    rw [rounds_succ]
    go_wp2
    go_ret
    exact ⟨rfl, Below.refl _ _⟩
  · obtain ⟨b, off, cap, rfl, hc, hm, hbl, hcell⟩ := h.lies (by omega)
    obtain ⟨b', off', cap', rfl, hc', hm', hbl', hcell'⟩ := h'.lies (by omega)
    have HC : Hid (∀ (i : Nat) (h : i < l.length), w.cell? ⟨b, off + i * 3, none⟩ = some (.bool (l[i]).1) ∧ w.cell? ⟨b, off + i * 3 + 1, none⟩ = some (.int .i64 (l[i]).2.1) ∧ w.cell? ⟨b, off + i * 3 + 2, none⟩ = some (.string (l[i]).2.2)) := hcell
    have HC' : Hid (∀ (i : Nat) (h : i < l.length), w.cell? ⟨b', off' + i * 3, none⟩ = some (.bool (l[i]).1) ∧ w.cell? ⟨b', off' + i * 3 + 1, none⟩ = some (.int .i64 (l[i]).2.1) ∧ w.cell? ⟨b', off' + i * 3 + 2, none⟩ = some (.string (l[i]).2.2)) := hcell'
    clear hcell h hn hcell' h'
    unfold maxLen at hm hm'
    go_enter Try.func21, Try.ntmps21
    go_wp2
    go_loopw [13] (fun i wr => ∃ j : Nat, j ≤ l.length ∧ i = .int .i64 j ∧ Below w.heap.size w wr) (fun i _ => l.length - (intOf i).toNat)
    case atStart => exact ⟨0, Nat.zero_le _, rfl, Below.refl _ _⟩
    case round =>
      obtain ⟨j, hj, rfl, hbel⟩ := hrel
      by_cases hlt : j < l.length
      · obtain ⟨e0, e1, e2⟩ := HC.out j hlt
        obtain ⟨f0, f1, f2⟩ := HC'.out j hlt
        obtain ⟨⟨xt, xn, xs⟩, hx⟩ : ∃ x, x = l[j] := ⟨_, rfl⟩
        rw [← hx] at e0 e1 e2 f0 f1 f2
        have c0 := (hbel.cell (p := ⟨b, off + j * 3, none⟩) hbl).trans e0
        have c1 := (hbel.cell (p := ⟨b, off + j * 3 + 1, none⟩) hbl).trans e1
        have c2 := (hbel.cell (p := ⟨b, off + j * 3 + 2, none⟩) hbl).trans e2
        have d0 := (hbel.cell (p := ⟨b', off' + j * 3, none⟩) hbl').trans f0
        have d1 := (hbel.cell (p := ⟨b', off' + j * 3 + 1, none⟩) hbl').trans f1
        have d2 := (hbel.cell (p := ⟨b', off' + j * 3 + 2, none⟩) hbl').trans f2
        have i1 : (j : Int) < (l.length : Int) := by omega
        have i2 : (0 : Int) ≤ (j : Int) := by omega
        clear e0 e1 e2 f0 f1 f2 hx
        go_wp2
        go_quiet (fail)
        go_wp2
        go_roundw
        case rel => exact ⟨j + 1, hlt, by go_num, below_drewN hbel _⟩
        case measure => simp [intOf]; omega
      · go_wp2
        go_ret
        exact ⟨rfl, hbel⟩
end Go.Proofs.Ytdbfblkdjijmmaa
