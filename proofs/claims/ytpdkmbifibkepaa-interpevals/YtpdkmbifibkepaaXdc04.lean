import Derived.Test.YtpdkmbifibkepaaXdc02
import Derived.Test.YtpdkmbifibkepaaXdc03
import Derived.Test.YtpdkmbifibkepaaXdc01
import Derived.Test.YtpdkmbifibkepaaRows
import Derived.Deep.AppendLies
import Derived.Lib.SlicesCompact
import Derived.Sort.Walk0
import Derived.WalkSmall

/- A row with a zero element at its end, in whose place another is put. -/
namespace Go.Proofs.Ytpdkmbifibkepaa
open Go.RowKit Go.Lib
set_option linter.unusedSimpArgs false
set_option linter.unusedVariables false

/-- The row v', of l and a zero element. -/
def ZR {α : Type} (w : World) (base : Nat) (bad : Nat → Prop) (e k : Nat) (R : (Nat → Prop) → World → α → List Value → Prop) (zs : List Value) (g cap : Nat) (l : List α) : Prop :=
  base ≤ g ∧ g < w.heap.size ∧ ¬ bad g ∧ ∃ qs : List (List Value), w.ownsRow base e k (.slice (some ⟨g, 0, none⟩) (l.length + 1) cap) (l.length + 1) (qs.flatten ++ zs) ∧ qs.length = l.length ∧ ∀ (i : Nat) (h : i < l.length) (h' : i < qs.length), (qs[i]).length = k ∧ R (fun b => base ≤ b ∧ g ≠ b ∧ ¬ bad b) w l[i] qs[i]
theorem ZR.keep {α : Type} {w w' : World} {base e k g cap : Nat} {bad : Nat → Prop} {R : (Nat → Prop) → World → α → List Value → Prop} {zs : List Value} {l : List α} (hR : Kp R) (h : ZR w base bad e k R zs g cap l) (hs : w.heap.size ≤ w'.heap.size) (hk : ∀ b, base ≤ b → ¬ bad b → b < w.heap.size → w'.heap[b]? = w.heap[b]?) : ZR w' base bad e k R zs g cap l := by
  obtain ⟨h1, h2, h3, qs, ho, hl, hr⟩ := h
  refine ⟨h1, by omega, h3, qs, ownsRow_keep ho (fun g' hg => ?_), hl, fun i h h' => ⟨(hr i h h').1, hR (hr i h h').2 (fun b hb hlt => ⟨hb, hk b hb.1 hb.2.2 hlt⟩)⟩⟩
  simp only [Value.ownBlock, Option.some.injEq] at hg
  subst hg
  exact hk g h1 h3 h2
theorem ZR.on {α : Type} {w w' : World} {base e k g cap : Nat} {bad : Nat → Prop} {R : (Nat → Prop) → World → α → List Value → Prop} {zs : List Value} {l : List α} (hR : Kp R) (h : ZR w base bad e k R zs g cap l) (hb : Below w.heap.size w w') : ZR w' base bad e k R zs g cap l := h.keep hR hb.size (fun b _ _ hlt => hb.block b hlt)
theorem ZR.fx {α : Type} {w w' : World} {base e k g cap X : Nat} {bad : Nat → Prop} {R : (Nat → Prop) → World → α → List Value → Prop} {zs : List Value} {l : List α} (hR : Kp R) (h : ZR w base bad e k R zs g cap l) (hf : Fx X w w') (hX : X < base) : ZR w' base bad e k R zs g cap l :=
  h.keep hR hf.size (fun b hb _ hlt => hf.block b hlt (fun e => by have : b = X := Option.some.inj e; omega))
theorem flat_len {k : Nat} : ∀ (qs : List (List Value)), (∀ (i : Nat) (h : i < qs.length), (qs[i]).length = k) → qs.flatten.length = qs.length * k
  | [], _ => by simp
  | x :: t, h => by
    have hx : x.length = k := h 0 (by simp)
    rw [List.flatten_cons, List.length_append, flat_len t (fun i hi => h (i + 1) (by simpa using hi)), List.length_cons, Nat.succ_mul]
    omega
theorem ZR.cells {α : Type} {w : World} {base e k g cap : Nat} {bad : Nat → Prop} {R : (Nat → Prop) → World → α → List Value → Prop} {zs : List Value} {l : List α} (h : ZR w base bad e k R zs g cap l) : ∀ j z, zs[j]? = some z → w.cell? ⟨g, l.length * k + j, none⟩ = some z ∧ w.frozen? ⟨g, l.length * k + j, none⟩ = false := by
  obtain ⟨h1, h2, h3, qs, ho, hl, hr⟩ := h
  intro j z hz
  have hfl : qs.flatten.length = l.length * k := by rw [flat_len qs (fun i hi => (hr i (by omega) hi).1), hl]
  have hc := World.ownsRow.cells ho (g := g) rfl (l.length * k + j) z (by rw [List.getElem?_append_right (by omega), hfl, Nat.add_sub_cancel_left]; exact hz)
  rw [add_plain, Nat.zero_add] at hc
  exact ⟨hc, World.ownsRow.frozenAt ho _⟩
/-- The zero element is there. -/
theorem ZR.of {α : Type} {w w' : World} {base e k : Nat} {bad : Nat → Prop} {R : (Nat → Prop) → World → α → List Value → Prop} {v v' : Value} {zs : List Value} {l : List α} {qs : List (List Value)} (hR : Kp R)
    (ho : w.ownsRow base e k v l.length qs.flatten) (hl : qs.length = l.length) (hr : ∀ (i : Nat) (h : i < l.length) (h' : i < qs.length), (qs[i]).length = k ∧ R (fun b => base ≤ b ∧ v.ownBlock ≠ some b ∧ ¬ bad b) w l[i] qs[i]) (hgb : ∀ g, v.ownBlock = some g → ¬ bad g)
    (ho' : w'.ownsRow base e k v' (l.length + 1) (qs.flatten ++ zs)) (hg : w.grownBy w' v.ownBlock) (hat : v'.ownBlock = v.ownBlock ∨ v'.ownBlock = some w.heap.size) (hbad : ∀ b, bad b → b < w.heap.size) : ∃ g cap, v' = .slice (some ⟨g, 0, none⟩) (l.length + 1) cap ∧ l.length + 1 ≤ cap ∧ cap ≤ maxLen ∧ (v.ownBlock = some g ∨ g = w.heap.size) ∧ ZR w' base bad e k R zs g cap l := by
  rcases ho'.2 with ⟨_, h2⟩ | ⟨g, cap, cur, rfl, hb, hgg, hnc, hcm, _⟩
  · omega
  · have hgl : g < w'.heap.size := (Array.getElem?_eq_some_iff.1 hgg).1
    have hat' : v.ownBlock = some g ∨ g = w.heap.size := by
      simp only [Value.ownBlock] at hat
      rcases hat with h | h
      · exact .inl h.symm
      · exact .inr (Option.some.inj h)
    have hng : ¬ bad g := by
      rcases hat' with h | h
      · exact hgb g h
      · intro q; have := hbad g q; omega
    refine ⟨g, cap, rfl, hnc, hcm, hat', hb, hgl, hng, qs, ho', hl, fun i h h' => ⟨(hr i h h').1, hR (hr i h h').2 (fun b hb hlt => ⟨⟨hb.1, fun e => ?_, hb.2.2⟩, hg.block b hlt (fun e => hb.2.1 e.symm)⟩)⟩⟩
    subst e
    rcases hat' with h | h
    · exact hb.2.1 h
    · omega
/-- The element put in. -/
theorem ZR.put {α : Type} {w : World} {base e k g cap : Nat} {bad : Nat → Prop} {R : (Nat → Prop) → World → α → List Value → Prop} {zs : List Value} {l : List α} {p : α} {cs : List Value} (hR : Kp R) (h : ZR w base bad e k R zs g cap l) (hk : cs.length = k) (hz : zs.length = k) (hp : R (fun b => base ≤ b ∧ g ≠ b ∧ ¬ bad b) w p cs) : OwnB (putL w g (l.length * k) cs) base bad e k R (.slice (some ⟨g, 0, none⟩) (l.length + 1) cap) (l ++ [p]) := by
  obtain ⟨h1, h2, h3, qs, ho, hl, hr⟩ := h
  have hfl : qs.flatten.length = l.length * k := by rw [flat_len qs (fun i hi => (hr i (by omega) hi).1), hl]
  have ho2 := putL_own cs zs qs.flatten [] w base e k g (l.length + 1) cap (l.length * k) (by omega) hfl (by simpa using ho)
  rw [List.append_nil] at ho2
  have key : ∀ b, base ≤ b ∧ g ≠ b ∧ ¬ bad b → b < w.heap.size → (base ≤ b ∧ (Value.slice (some ⟨g, 0, none⟩) (l.length + 1) cap).ownBlock ≠ some b ∧ ¬ bad b) ∧ (putL w g (l.length * k) cs).heap[b]? = w.heap[b]? := fun b hb hlt =>
    ⟨⟨hb.1, fun e => hb.2.1 (Option.some.inj e), hb.2.2⟩, putL_heap cs w g _ b (fun e => hb.2.1 e.symm)⟩
  refine ⟨qs ++ [cs], ?_, by simp [hl], fun i h h' => ?_, fun g' hg' => ?_⟩
  · rw [List.flatten_append, List.length_append]
    simpa using ho2
  · rcases Nat.lt_or_ge i l.length with hi | hi
    · rw [List.getElem_append_left hi, List.getElem_append_left (by omega)]
      exact ⟨(hr i hi (by omega)).1, hR (hr i hi (by omega)).2 key⟩
    · have : i = l.length := by simp at h; omega
      subst this
      have e1 : (l ++ [p])[l.length] = p := by simp
      have e2 : (qs ++ [cs])[l.length]'h' = cs := by simp [← hl]
      rw [e1, e2]
      exact ⟨hk, hR hp key⟩
  · simp only [Value.ownBlock, Option.some.injEq] at hg'
    subst hg'
    exact h3
end Go.Proofs.Ytpdkmbifibkepaa

/- What the program's placed answers. -/
namespace Go.Proofs.Ytpdkmbifibkepaa
open Go.RowKit Go.Lib
set_option linter.unusedSimpArgs false
set_option linter.unusedVariables false
attribute [local go_sem ↓] Go.wp_at_zero Go.wp_at_succ




theorem OwnK.blk {α : Type} {w : World} {base e k : Nat} {R : (Nat → Prop) → World → α → List Value → Prop} {v : Value} {l : List α} (h : OwnK w base e k R v l) : ∀ x, v.ownBlock = some x → base ≤ x ∧ x < w.heap.size := by
  obtain ⟨qs, ho, _⟩ := h
  exact ownsRow_lt ho
theorem awake13_any (w : World) : Calls Try.prog 4 #[] w fun e w' => e = .returned (.bool true) ∧ Below w.heap.size w w' := by
  have hal : Below w.heap.size w (w.alloc (.cells #[.string ⟨#[112, 117, 115, 104]⟩, .int .i64 5] 43)) := (Below.refl _ _).alloc (Nat.le_refl _) _
  have hc : RdK (fun _ => True) (w.alloc (.cells #[.string ⟨#[112, 117, 115, 104]⟩, .int .i64 5] 43)) 2 rIns [(⟨#[112, 117, 115, 104]⟩, 5)] (.slice (some ⟨w.heap.size, 0, none⟩) 1 1) := by
    refine ⟨_, 1, rfl, by simp, by simp [maxLen], fun i hi => ?_⟩
    have hi0 : i = 0 := by simp at hi; omega
    subst hi0
    refine ⟨w.heap.size, 0, [.string ⟨#[112, 117, 115, 104]⟩, .int .i64 5], rfl, trivial, by simp, rfl, rfl, fun j u hu => ?_⟩
    rw [Nat.zero_mul, Nat.zero_add]
    try rw [Nat.zero_add]
    exact (Bn.new w [.string ⟨#[112, 117, 115, 104]⟩, .int .i64 5] 43 _ rfl j u hu).1
  have hr := irun_any hc (rdK_none (fun _ => True) _ 1 rI64) (by simp)
  have e9 : runI [] [(⟨#[112, 117, 115, 104]⟩, 5)] = (5, 0) := by
    unfold runI
    rw [if_neg (by simp)]
    rw [rnI_ok (p := 0) (st' := [5]) (by simp) rfl]
    rw [rnI_end (by simp)]
    rfl
  rw [e9] at hr
  clear hc e9
  go_enter Try.func4, Try.ntmps4
  go_wp2_with (first
    | (go_at_call 9; refine hr.mono ?_; rintro e w1 ⟨rfl, b1⟩)
    | fail)
  go_ret
  exact ⟨rfl, hal.trans (b1.mono hal.size)⟩
end Go.Proofs.Ytpdkmbifibkepaa

/- Variables in memory; what an expression's value is. -/
namespace Go.Proofs.Ytpdkmbifibkepaa
open Go.RowKit Go.Lib
set_option linter.unusedSimpArgs false
set_option linter.unusedVariables false

abbrev Vr := ByteArray × Int
/-- The slice v reads as the variables vs. -/
def RdV (w : World) (v : Value) (vs : List Vr) : Prop :=
  ∃ a cap, v = .slice a vs.length cap ∧ vs.length ≤ cap ∧ cap ≤ maxLen ∧ (a = none → vs = []) ∧
    ∀ x, a = some x → ∀ (i : Nat) (h : i < vs.length), w.cell? (x.add (i * 2)) = some (.string (vs[i]).1) ∧ w.cell? (x.add (i * 2 + 1)) = some (.int .i64 (vs[i]).2)
theorem RdV.below {w w' : World} {v : Value} {vs : List Vr} {B : Nat} (h : RdV w v vs) (hb : Below B w w') (hB : w.heap.size ≤ B) : RdV w' v vs := by
  obtain ⟨a, cap, rfl, hc, hm, hn, hcell⟩ := h
  refine ⟨a, cap, rfl, hc, hm, hn, fun x hx i hi => ?_⟩
  obtain ⟨h1, h2⟩ := hcell x hx i hi
  have hk : ∀ p u, w.cell? p = some u → w'.cell? p = some u := fun p u hp => by rw [hb.cell (Nat.lt_of_lt_of_le (World.block_lt_of_cell? w _ hp) hB)]; exact hp
  exact ⟨hk _ _ h1, hk _ _ h2⟩
theorem RdV.form {w : World} {v : Value} {vs : List Vr} (h : RdV w v vs) : ∃ a cap, v = .slice a vs.length cap ∧ vs.length ≤ cap ∧ cap ≤ 9223372036854775807 ∧
    ∀ (i : Nat) (hi : i < vs.length), ∃ b off, a = some ⟨b, off, none⟩ ∧ b < w.heap.size ∧ w.cell? ⟨b, off + i * 2, none⟩ = some (.string (vs[i]).1) ∧ w.cell? ⟨b, off + i * 2 + 1, none⟩ = some (.int .i64 (vs[i]).2) := by
  obtain ⟨a, cap, rfl, hc, hm, hn, hcell⟩ := h
  refine ⟨a, cap, rfl, hc, by unfold maxLen at hm; omega, fun i hi => ?_⟩
  cases a with
  | none => have := hn rfl; subst this; simp at hi
  | some x =>
    obtain ⟨b, off, spot⟩ := x
    obtain ⟨h1, h2⟩ := hcell _ rfl i hi
    obtain ⟨z1, _⟩ := hcell _ rfl 0 (by omega)
    have hspot : spot = none := by simpa [Addr.add] using World.cell?_spot z1
    subst hspot
    rw [add_plain] at h1 h2
    exact ⟨b, off, rfl, World.block_lt_of_cell? w _ h1, h1, h2⟩

def wth (n : Int) : Int × Int := if n < -1000000000 ∨ 1000000000 < n then (0, 3) else (n, 0)
def tru (b : Bool) : Int := if b = true then 1 else 0
def look : List Vr → ByteArray → Int × Int
  | [], _ => (0, 5)
  | x :: r, s => if x.1 = s then wth x.2 else look r s
def bin (s : List UInt8) (x y : Int) : Int × Int :=
  if s = [43] then wth (x + y) else if s = [45] then wth (x - y) else if s = [42] then wth (x * y) else if s = [60] then (tru (decide (x < y)), 0) else if s = [60, 61] then (tru (decide (x ≤ y)), 0)
  else if s = [61, 61] then (tru (x == y), 0) else if s = [33, 61] then (tru (x != y), 0) else (tru (y != 0), 0)
/-- The value, and the error, of a formed expression. -/
def evC (vs : List Vr) : (d : Nat) → T d → Int × Int := fold (fun k n s l =>
  if k = 1 then (n, 0) else if k = 2 then look vs s else if (l.getD 0 (0, 0)).2 ≠ 0 then (0, (l.getD 0 (0, 0)).2) else if k = 3 then (tru ((l.getD 0 (0, 0)).1 == 0), 0) else if k = 4 then (-(l.getD 0 (0, 0)).1, 0)
  else if bl s = [38, 38] ∧ (l.getD 0 (0, 0)).1 = 0 then (0, 0) else if bl s = [124, 124] ∧ (l.getD 0 (0, 0)).1 ≠ 0 then (1, 0)
  else if (l.getD 1 (0, 0)).2 ≠ 0 then (0, (l.getD 1 (0, 0)).2) else bin (bl s) (l.getD 0 (0, 0)).1 (l.getD 1 (0, 0)).1)
theorem evC_1 (vs : List Vr) {d : Nat} (n : Int) (s : ByteArray) (ps : List (T d)) : evC vs (d + 1) (mkT 1 n s ps) = (n, 0) := rfl
theorem evC_2 (vs : List Vr) {d : Nat} (n : Int) (s : ByteArray) (ps : List (T d)) : evC vs (d + 1) (mkT 2 n s ps) = look vs s := rfl
theorem evC_3 (vs : List Vr) {d : Nat} (n : Int) (s : ByteArray) (p : T d) : evC vs (d + 1) (mkT 3 n s [p]) = if (evC vs d p).2 ≠ 0 then (0, (evC vs d p).2) else (tru ((evC vs d p).1 == 0), 0) := rfl
theorem evC_4 (vs : List Vr) {d : Nat} (n : Int) (s : ByteArray) (p : T d) : evC vs (d + 1) (mkT 4 n s [p]) = if (evC vs d p).2 ≠ 0 then (0, (evC vs d p).2) else (-(evC vs d p).1, 0) := rfl
theorem evC_5 (vs : List Vr) {d : Nat} (n : Int) (s : ByteArray) (p q : T d) : evC vs (d + 1) (mkT 5 n s [p, q]) = if (evC vs d p).2 ≠ 0 then (0, (evC vs d p).2)
    else if bl s = [38, 38] ∧ (evC vs d p).1 = 0 then (0, 0) else if bl s = [124, 124] ∧ (evC vs d p).1 ≠ 0 then (1, 0)
    else if (evC vs d q).2 ≠ 0 then (0, (evC vs d q).2) else bin (bl s) (evC vs d p).1 (evC vs d q).1 := rfl
theorem wth_bd (n : Int) : -1000000000 ≤ (wth n).1 ∧ (wth n).1 ≤ 1000000000 := by unfold wth; split <;> simp only <;> omega
theorem tru_bd (b : Bool) : 0 ≤ tru b ∧ tru b ≤ 1 := by unfold tru; split <;> omega
theorem look_bd : ∀ (vs : List Vr) (s : ByteArray), -1000000000 ≤ (look vs s).1 ∧ (look vs s).1 ≤ 1000000000
  | [], s => by simp [look]
  | x :: r, s => by
    unfold look
    split
    · exact wth_bd _
    · exact look_bd r s
theorem bin_bd (s : List UInt8) (x y : Int) : -1000000000 ≤ (bin s x y).1 ∧ (bin s x y).1 ≤ 1000000000 := by
  unfold bin
  have h1 := wth_bd (x + y)
  have h2 := wth_bd (x - y)
  have h3 := wth_bd (x * y)
  have h4 := tru_bd (decide (x < y))
  have h5 := tru_bd (decide (x ≤ y))
  have h6 := tru_bd (x == y)
  have h7 := tru_bd (x != y)
  have h8 := tru_bd (y != 0)
  repeat' split
  all_goals first | assumption | (simp only; omega)
theorem evC_bd (vs : List Vr) : ∀ (d : Nat) (t : T d), Cl d t → sdC d t = true → -1000000000 ≤ (evC vs d t).1 ∧ (evC vs d t).1 ≤ 1000000000
  | 0, t, _, _ => Empty.elim t
  | d + 1, t, hc, hs => by
    rcases hc.cases with ⟨n, rfl⟩ | ⟨s, rfl⟩ | ⟨k, p, hk, rfl, hp⟩ | ⟨s, p, q, rfl, hp, hq⟩ | rfl
    · rw [sdC_mk, if_pos rfl] at hs
      simp only [Bool.and_eq_true, decide_eq_true_eq] at hs
      rw [evC_1]; simp only; omega
    · rw [evC_2]; exact look_bd _ _
    · have hsp : sdC d p = true := by
        rw [sdC_mk, if_neg (by omega), if_neg (by omega), if_pos hk] at hs
        simpa using hs
      have ih := evC_bd vs d p hp hsp
      have ht := tru_bd ((evC vs d p).1 == 0)
      rcases hk with rfl | rfl
      · rw [evC_3]; split <;> simp only <;> omega
      · rw [evC_4]; split <;> simp only <;> omega
    · have hb := bin_bd (bl s) (evC vs d p).1 (evC vs d q).1
      rw [evC_5]
      repeat' split
      all_goals first | exact hb | (simp only; omega)
    · unfold none0 at hs
      rw [sdC_mk] at hs
      simp at hs
end Go.Proofs.Ytpdkmbifibkepaa

/- What Clean makes of a tree: memory. -/
namespace Go.Proofs.Ytpdkmbifibkepaa
open Go.RowKit
set_option linter.unusedSimpArgs false
set_option linter.unusedVariables false

/-- The slice v is the call's own, from block base on, and holds the trees l; their own memory lies apart. -/
def OwnN (w : World) (base : Nat) (v : Value) {d : Nat} (l : List (T d)) : Prop :=
  ∃ qs : List Q4, w.ownsRow base 24 4 v l.length (celsQ qs) ∧ qs.length = l.length ∧ ∀ (i : Nat) (h : i < l.length) (h' : i < qs.length), RdT (fun b => base ≤ b ∧ v.ownBlock ≠ some b) w d l[i] (.agg #[(qs[i]).1, (qs[i]).2.1, (qs[i]).2.2.1, (qs[i]).2.2.2])
/-- It stays where the blocks from base on that there are stay. -/
theorem OwnN.keep {w w' : World} {base : Nat} {v : Value} {d : Nat} {l : List (T d)} (h : OwnN w base v l) (hk : ∀ b, base ≤ b → b < w.heap.size → w'.heap[b]? = w.heap[b]?) : OwnN w' base v l := by
  obtain ⟨qs, ho, hl, hr⟩ := h
  refine ⟨qs, ownsRow_keep ho (fun g hg => ?_), hl, fun i h h' => RdT.keep (fun b hb hlt => ⟨hb, hk b hb.1 hlt⟩) (hr i h h')⟩
  obtain ⟨a, b⟩ := ownsRow_lt ho g hg
  exact hk g a b
theorem OwnN.below {w w' : World} {base : Nat} {v : Value} {d : Nat} {l : List (T d)} (h : OwnN w base v l) (hb : Below w.heap.size w w') : OwnN w' base v l := h.keep (fun b _ hlt => hb.block b hlt)
theorem OwnN.set {w : World} {base : Nat} {v : Value} {d : Nat} {l : List (T d)} (h : OwnN w base v l) {X i : Nat} (hX : X < base) (u : Value) : OwnN (w.setCell ⟨X, i, none⟩ u) base v l :=
  h.keep (fun b hb _ => Below.heap_setCell _ _ _ _ (fun e => by have : b = X := e; omega))
theorem OwnN.snoc {w w' : World} {base g cap lo n : Nat} {v : Value} {d : Nat} {l : List (T d)} {p : T d} {c0 c1 c2 c3 : Value} {qs : List Q4}
    (hn : l.length = n) (ho : w.ownsRow base 24 4 v n (celsQ qs)) (hl : qs.length = l.length) (hr : ∀ (i : Nat) (h : i < l.length) (h' : i < qs.length), RdT (fun b => base ≤ b ∧ v.ownBlock ≠ some b) w d l[i] (.agg #[(qs[i]).1, (qs[i]).2.1, (qs[i]).2.2.1, (qs[i]).2.2.2]))
    (ho' : w'.ownsRow base 24 4 (.slice (some ⟨g, 0, none⟩) (n + 1) cap) (n + 1) (celsQ qs ++ [c0, c1, c2, c3])) (hg : w.grownBy w' v.ownBlock) (hat : v.ownBlock = some g ∨ g = w.heap.size)
    (hp : RdT (fun b => lo ≤ b) w d p (.agg #[c0, c1, c2, c3])) (hlo : base ≤ lo) (hv : ∀ x, v.ownBlock = some x → x < lo) : OwnN w' base (.slice (some ⟨g, 0, none⟩) (n + 1) cap) (l ++ [p]) := by
  subst hn
  have key : ∀ b, base ≤ b ∧ v.ownBlock ≠ some b → b < w.heap.size → (base ≤ b ∧ (Value.slice (some ⟨g, 0, none⟩) (l.length + 1) cap).ownBlock ≠ some b) ∧ w'.heap[b]? = w.heap[b]? := fun b hb hlt => by
    refine ⟨⟨hb.1, ?_⟩, hg.block b hlt (fun e => hb.2 e.symm)⟩
    simp only [Value.ownBlock, ne_eq, Option.some.injEq]
    rintro rfl
    rcases hat with h | h
    · exact hb.2 h
    · omega
  refine ⟨qs ++ [(c0, c1, c2, c3)], ?_, by simp [hl], fun i h h' => ?_⟩
  · rw [celsQ_snoc, List.length_append]
    exact ho'
  · rcases Nat.lt_or_ge i l.length with hi | hi
    · rw [List.getElem_append_left hi, List.getElem_append_left (by omega)]
      exact RdT.keep key (hr i hi (by omega))
    · have : i = l.length := by simp at h; omega
      subst this
      have e1 : (l ++ [p])[l.length] = p := by simp
      have e2 : (qs ++ [(c0, c1, c2, c3)])[l.length]'h' = (c0, c1, c2, c3) := by simp [← hl]
      rw [e1, e2]
      exact RdT.keep (fun b hb hlt => key b ⟨by omega, fun e => by have := hv b e; omega⟩ hlt) hp
theorem OwnN.form {w : World} {base : Nat} {v : Value} {d : Nat} {l : List (T d)} (h : OwnN w base v l) : ∃ a cap, v = .slice a l.length cap := by
  obtain ⟨qs, ho, _⟩ := h
  rcases ho.2 with ⟨h1, h2⟩ | ⟨g, cap, cur, h1, _⟩
  · exact ⟨none, 0, by rw [h1, h2]⟩
  · exact ⟨_, _, h1⟩
/-- It reads as the trees. -/
theorem OwnN.rd {w : World} {base : Nat} {v : Value} {d : Nat} {l : List (T d)} (h : OwnN w base v l) : RdP (fun b => base ≤ b) w (RdT (fun b => base ≤ b) w d) l v := by
  obtain ⟨qs, ho, hl, hr⟩ := h
  have hc := fun g => World.ownsRow.cells ho (g := g)
  rcases ho.2 with ⟨rfl, hn⟩ | ⟨g, cap, cur, rfl, hb, hg, hnc, hcm, hcs, htake⟩
  · have hx : l = [] := List.eq_nil_of_length_eq_zero hn
    subst hx
    exact ⟨none, 0, rfl, by simp, by simp [maxLen], by simp, fun x hx => by cases hx⟩
  · refine ⟨some ⟨g, 0, none⟩, cap, rfl, hnc, hcm, by simp, ?_⟩
    intro x hx i hi
    obtain rfl := Option.some.inj hx
    obtain ⟨h0, h1, h2, h3⟩ := celsQ_at qs i (by omega)
    exact ⟨hb, _, _, _, _, RdT.keep (fun b hb _ => ⟨hb.1, rfl⟩) (hr i hi (by omega)), hc g rfl _ _ h0, hc g rfl _ _ h1, hc g rfl _ _ h2, hc g rfl _ _ h3⟩
theorem OwnN.base {w : World} {base lo : Nat} {d : Nat} {l : List (T d)} {v : Value} (h : RdP (fun b => base ≤ b) w (RdT (fun b => base ≤ b) w d) l v) (hlo : lo ≤ base) : RdP (fun b => lo ≤ b) w (RdT (fun b => lo ≤ b) w d) l v :=
  h.keep (fun x _ u hu => RdT.keep (fun b hb _ => ⟨by omega, rfl⟩) hu) (fun b hb _ => ⟨by omega, rfl⟩)
end Go.Proofs.Ytpdkmbifibkepaa

/- Code: what an expression's is, as math; rows of instructions in memory. -/
namespace Go.Proofs.Ytpdkmbifibkepaa
open Go.RowKit Go.Lib
set_option linter.unusedSimpArgs false
set_option linter.unusedVariables false

abbrev Ins := ByteArray × Int
def wPush : ByteArray := ⟨#[112, 117, 115, 104]⟩
def wLoad : ByteArray := ⟨#[108, 111, 97, 100]⟩
def wNot : ByteArray := ⟨#[110, 111, 116]⟩
def wNeg : ByteArray := ⟨#[110, 101, 103]⟩
def wAnd : ByteArray := ⟨#[97, 110, 100]⟩
def wOr : ByteArray := ⟨#[111, 114]⟩
def wBool : ByteArray := ⟨#[98, 111, 111, 108]⟩
/-- The number of the first variable of a name, from k on. -/
def vix (s : ByteArray) : List Vr → Nat → Int
  | [], _ => -1
  | x :: r, k => if x.1 = s then (k : Int) else vix s r (k + 1)
/-- A jump over the right side. -/
def jmpI (j : ByteArray) (a b : List Ins) : List Ins := a ++ [(j, ((b.length + 1 : Nat) : Int))] ++ (b ++ [(wBool, 0)])
def binI (s : ByteArray) (a b : List Ins) : List Ins := if bl s = [38, 38] then jmpI wAnd a b else if bl s = [124, 124] then jmpI wOr a b else a ++ b ++ [(s, 0)]
def cdC (vs : List Vr) : (d : Nat) → T d → List Ins := fold (fun k n s l =>
  if k = 1 then [(wPush, n)] else if k = 2 then [(wLoad, vix s vs 0)] else if k = 3 then l.getD 0 [] ++ [(wNot, 0)] else if k = 4 then l.getD 0 [] ++ [(wNeg, 0)] else if k = 5 then binI s (l.getD 0 []) (l.getD 1 []) else [])
theorem cdC_lit (vs : List Vr) {d : Nat} (n : Int) (s : ByteArray) (ps : List (T d)) : cdC vs (d + 1) (mkT 1 n s ps) = [(wPush, n)] := rfl
theorem cdC_ref (vs : List Vr) {d : Nat} (n : Int) (s : ByteArray) (ps : List (T d)) : cdC vs (d + 1) (mkT 2 n s ps) = [(wLoad, vix s vs 0)] := rfl
theorem cdC_not (vs : List Vr) {d : Nat} (n : Int) (s : ByteArray) (p : T d) : cdC vs (d + 1) (mkT 3 n s [p]) = cdC vs d p ++ [(wNot, 0)] := rfl
theorem cdC_neg (vs : List Vr) {d : Nat} (n : Int) (s : ByteArray) (p : T d) : cdC vs (d + 1) (mkT 4 n s [p]) = cdC vs d p ++ [(wNeg, 0)] := rfl
theorem cdC_bin (vs : List Vr) {d : Nat} (n : Int) (s : ByteArray) (p q : T d) : cdC vs (d + 1) (mkT 5 n s [p, q]) = binI s (cdC vs d p) (cdC vs d q) := rfl
theorem cdC_none (vs : List Vr) {d : Nat} : cdC vs (d + 1) (none0 : T (d + 1)) = [] := rfl
theorem binI_len (s : ByteArray) (a b : List Ins) : (binI s a b).length ≤ a.length + b.length + 2 := by
  unfold binI jmpI
  split
  · simp; omega
  split
  · simp; omega
  · simp; omega
theorem cdC_len (vs : List Vr) : ∀ (d : Nat) (t : T d), Cl d t → (cdC vs d t).length ≤ 2 * cnt d t
  | 0, t, _ => Empty.elim t
  | d + 1, t, h => by
    rcases h.cases with ⟨n, rfl⟩ | ⟨s, rfl⟩ | ⟨k, p, hk, rfl, hp⟩ | ⟨s, p, q, rfl, hp, hq⟩ | rfl
    · rw [cdC_lit, cnt_mk]; simp
    · rw [cdC_ref, cnt_mk]; simp
    · have := cdC_len vs d p hp
      rcases hk with rfl | rfl
      · rw [cdC_not, cnt_mk]; simp; omega
      · rw [cdC_neg, cnt_mk]; simp; omega
    · have h1 := cdC_len vs d p hp
      have h2 := cdC_len vs d q hq
      have h3 := binI_len s (cdC vs d p) (cdC vs d q)
      rw [cdC_bin, cnt_mk]
      simp only [List.map_cons, List.map_nil, List.sum_cons, List.sum_nil]
      omega
    · rw [cdC_none, cnt_none]; simp
theorem vix_ge (s : ByteArray) : ∀ (l : List Vr) (k : Nat), -1 ≤ vix s l k
  | [], _ => by unfold vix; omega
  | x :: r, k => by
    unfold vix
    split
    · omega
    · exact vix_ge s r (k + 1)
theorem vix_lt (s : ByteArray) : ∀ (l : List Vr) (k : Nat), vix s l k < ((k + l.length + 1 : Nat) : Int)
  | [], _ => by unfold vix; simp; omega
  | x :: r, k => by
    unfold vix
    split
    · simp; omega
    · have := vix_lt s r (k + 1)
      simp only [List.length_cons]
      omega
/-- The cells of instructions. -/
def celI (l : List Ins) : List Value := l.flatMap (fun x => [.string x.1, .int .i64 x.2])
theorem celI_app (a b : List Ins) : celI (a ++ b) = celI a ++ celI b := List.flatMap_append
theorem celI_one (l : List Ins) : ∀ u ∈ celI l, u.oneCell' = true := fun u hu => by
  obtain ⟨x, _, hx⟩ := List.mem_flatMap.1 hu
  simp only [List.mem_cons, List.not_mem_nil, or_false] at hx
  rcases hx with rfl | rfl <;> rfl
theorem celI_at : ∀ (l : List Ins) (i : Nat) (h : i < l.length), (celI l)[i * 2]? = some (.string (l[i]).1) ∧ (celI l)[i * 2 + 1]? = some (.int .i64 (l[i]).2)
  | [], i, h => by simp at h
  | x :: r, 0, _ => ⟨rfl, rfl⟩
  | x :: r, i + 1, h => by
    have := celI_at r i (by simpa using h)
    rw [show (i + 1) * 2 = i * 2 + 2 by omega, show i * 2 + 2 + 1 = i * 2 + 1 + 2 by omega]
    exact this
/-- The row v of the type e is the call's own from block base on, and holds these instructions. -/
def OwnI (w : World) (base : Nat) (e : TypeId) (v : Value) (l : List Ins) : Prop := w.ownsRow base e 2 v l.length (celI l)
theorem ownI_nil (w : World) (base : Nat) (e : TypeId) : OwnI w base e (.slice none 0 0) [] := World.ownsRow_nil w base e 2
theorem OwnI.form {w : World} {base : Nat} {e : TypeId} {v : Value} {l : List Ins} (h : OwnI w base e v l) : ∃ a cap, v = .slice a l.length cap ∧ l.length ≤ cap ∧ cap ≤ maxLen := by
  rcases h.2 with ⟨h1, h2⟩ | ⟨g, cap, cur, h1, _, _, h3, h4, _⟩
  · exact ⟨none, 0, by rw [h1, h2], by omega, by simp [maxLen]⟩
  · exact ⟨_, _, h1, h3, h4⟩
theorem OwnI.lt {w : World} {base : Nat} {e : TypeId} {v : Value} {l : List Ins} (h : OwnI w base e v l) : ∀ g, v.ownBlock = some g → base ≤ g ∧ g < w.heap.size := ownsRow_lt h
theorem OwnI.keep {w w' : World} {base : Nat} {e : TypeId} {v : Value} {l : List Ins} (h : OwnI w base e v l) (hk : ∀ g, v.ownBlock = some g → w'.heap[g]? = w.heap[g]?) : OwnI w' base e v l := ownsRow_keep h hk
theorem OwnI.on {w w' : World} {base : Nat} {e : TypeId} {v : Value} {l : List Ins} (h : OwnI w base e v l) (hb : Below w.heap.size w w') : OwnI w' base e v l := h.keep (fun g hg => hb.block g (h.lt g hg).2)
theorem OwnI.low {w : World} {base lo : Nat} {e : TypeId} {v : Value} {l : List Ins} (h : OwnI w base e v l) (hlo : lo ≤ base) : OwnI w lo e v l := by
  refine ⟨h.1, ?_⟩
  rcases h.2 with h1 | ⟨g, cap, cur, h1, h2, h3⟩
  · exact .inl h1
  · exact .inr ⟨g, cap, cur, h1, by omega, h3⟩
theorem OwnI.src {w : World} {base : Nat} {e tx : TypeId} {v : Value} {l : List Ins} (h : OwnI w base e v l) (ht : Try.prog.underlying tx = some (.slice e)) : Src Try.prog 2 tx v l.length (celI l) w := by
  have hc := fun g => World.ownsRow.cells h (g := g)
  rcases h.2 with ⟨rfl, hn⟩ | ⟨g, cap, cur, rfl, hb, hg, hnc, hcm, hcs, htake⟩
  · have hx : l = [] := List.eq_nil_of_length_eq_zero hn
    subst hx
    exact Src.ofNil w ht 0
  · exact Src.ofSlice w ht _ l.length cap (celI l) h.1 (hc g rfl) (celI_one l)
theorem OwnI.at {w : World} {base : Nat} {e : TypeId} {a : Option Addr} {n c : Nat} {l : List Ins} (h : OwnI w base e (.slice a n c) l) (i : Nat) (hi : i < l.length) : ∃ g, a = some ⟨g, 0, none⟩ ∧ g < w.heap.size ∧ w.cell? ⟨g, i * 2, none⟩ = some (.string (l[i]).1) ∧ w.cell? ⟨g, i * 2 + 1, none⟩ = some (.int .i64 (l[i]).2) := by
  have hc := fun g => World.ownsRow.cells h (g := g)
  rcases h.2 with ⟨_, hn⟩ | ⟨g, cap, cur, he, hb, hg, hnc, hcm, hcs, htake⟩
  · omega
  · simp only [Value.slice.injEq] at he
    obtain ⟨rfl, rfl, rfl⟩ := he
    obtain ⟨k1, k2⟩ := celI_at l i hi
    have h1 := hc g rfl _ _ k1
    have h2 := hc g rfl _ _ k2
    rw [add_plain, Nat.zero_add] at h1 h2
    exact ⟨g, rfl, (Array.getElem?_eq_some_iff.1 hg).1, h1, h2⟩
/-- One that was built. -/
theorem ownI_new (w : World) (e : TypeId) (s : ByteArray) (n : Int) (base : Nat) (hb : base ≤ w.heap.size) : OwnI (w.alloc (.cells #[.string s, .int .i64 n] e)) base e (.slice (some ⟨w.heap.size, 0, none⟩) 1 1) [(s, n)] :=
  ⟨rfl, .inr ⟨w.heap.size, 1, #[.string s, .int .i64 n], rfl, hb, heap_alloc_new w _, by simp, by simp [maxLen], by simp, by simp [celI]⟩⟩
theorem srcI_new {tx e : TypeId} (ht : Try.prog.underlying tx = some (.slice e)) (w : World) (s : ByteArray) (n : Int) : Src Try.prog 2 tx (.slice (some ⟨w.heap.size, 0, none⟩) 1 1) 1 (celI [(s, n)]) (w.alloc (.cells #[.string s, .int .i64 n] e)) := (ownI_new w e s n 0 (Nat.zero_le _)).src ht

def lss (a b : ByteArray) : Bool := Op.bytesLess a.toList b.toList
def lead (ls : List ByteArray) (s : ByteArray) : Nat := (ls.takeWhile (fun x => lss x s)).length
/-- A name into rising ones, once. -/
def adS (ls : List ByteArray) (s : ByteArray) : List ByteArray := if ls[lead ls s]? = some s then ls else ls.take (lead ls s) ++ [s] ++ ls.drop (lead ls s)
def cS (ls : List ByteArray) : List Value := ls.map .string
/-- The slice v, made by calls of ours, holds the texts ls. -/
def RdS (w : World) (v : Value) (ls : List ByteArray) : Prop := w.ownsRow 0 9 1 v ls.length (cS ls)
theorem rdS_nil (w : World) : RdS w (.slice none 0 0) [] := World.ownsRow_nil w 0 9 1
theorem RdS.below {w w' : World} {v : Value} {ls : List ByteArray} {B : Nat} (h : RdS w v ls) (hb : Below B w w') (hB : w.heap.size ≤ B) : RdS w' v ls := by
  refine ⟨h.1, ?_⟩
  rcases h.2 with hn | ⟨g, cap, cur, rfl, hbg, hg, rest⟩
  · exact .inl hn
  · exact .inr ⟨g, cap, cur, rfl, hbg, by rw [hb.block g (by have := (Array.getElem?_eq_some_iff.1 hg).1; omega)]; exact hg, rest⟩
theorem RdS.form {w : World} {v : Value} {ls : List ByteArray} (h : RdS w v ls) : (v = .slice none 0 0 ∧ ls = []) ∨ ∃ g cap, v = .slice (some ⟨g, 0, none⟩) ls.length cap ∧ ls.length ≤ cap ∧ cap ≤ maxLen ∧ ∀ (i : Nat) (hi : i < ls.length), w.cell? ⟨g, i, none⟩ = some (.string ls[i]) := by
  rcases h.2 with ⟨h1, h2⟩ | ⟨g, cap, cur, rfl, hb, hg, hnc, hcm, _⟩
  · exact .inl ⟨h1, List.eq_nil_of_length_eq_zero h2⟩
  · refine .inr ⟨g, cap, rfl, hnc, hcm, fun i hi => ?_⟩
    have h1 := World.ownsRow.cells h (g := g) rfl i (.string ls[i]) (by simp [cS, hi])
    have hp : (⟨g, 0, none⟩ : Addr).add i = ⟨g, i, none⟩ := by unfold Addr.add; split <;> simp_all
    rw [hp] at h1
    exact h1
theorem src_texts {P : Program} {t : TypeId} (ht : P.underlying t = some (.slice 9)) {w : World} {a : Addr} {n c : Nat} {ls : List ByteArray} (hl : ls.length = n) (h : ∀ (i : Nat) (hi : i < ls.length), w.cell? (a.add i) = some (.string ls[i])) : Src P 1 t (.slice (some a) n c) n (cS ls) w := by
  refine Src.ofSlice w ht a n c (cS ls) (by simp [cS, hl]) (fun j u hu => ?_) (fun u hu => ?_)
  · have hj : j < ls.length := by
      rcases Nat.lt_or_ge j ls.length with h | h
      · exact h
      · rw [List.getElem?_eq_none (by simp [cS]; omega)] at hu; cases hu
    have : u = .string ls[j] := by simpa [cS, hj] using hu.symm
    rw [this]; exact h j hj
  · obtain ⟨x, _, rfl⟩ := List.mem_map.1 hu
    rfl
theorem Try.infoStr : (Try.prog.info? 9).map (fun i => (i.zero, i.size, i.bytes)) = some (some (.string ⟨#[]⟩), 1, 16) := by kernel_rfl
theorem cS_append (a b : List ByteArray) : cS (a ++ b) = cS a ++ cS b := by simp [cS]
theorem ownsRow_zero {w : World} {base e size : Nat} {v : Value} {n : Nat} {xs : List Value} (h : w.ownsRow base e size v n xs) : w.ownsRow 0 e size v n xs :=
  ⟨h.1, h.2.elim Or.inl (fun ⟨g, cap, cur, hv, hg, r⟩ => Or.inr ⟨g, cap, cur, hv, Nat.zero_le _, r⟩)⟩

/-- The names of an expression, behind those that are there. -/
def rfC : (d : Nat) → T d → List ByteArray → List ByteArray := fold (fun k _ s fs l => fs.foldl (fun a f => f a) (if k = 2 then adS l s else l))
theorem rfC_mk {d : Nat} (k n : Int) (s : ByteArray) (ps : List (T d)) (l : List ByteArray) : rfC (d + 1) (mkT k n s ps) l = ps.foldl (fun a p => rfC d p a) (if k = 2 then adS l s else l) := by
  show (ps.map (rfC d)).foldl (fun a f => f a) (if k = 2 then adS l s else l) = _
  rw [List.foldl_map]
def rfT (d : Nat) (t : T d) : List ByteArray := if fmC d t = true then rfC d t [] else []

/-- The names, from the left to the right. -/
def nmC : (d : Nat) → T d → List ByteArray := fold (fun k _ s l => (if k = 2 then [s] else []) ++ l.flatten)
theorem nmC_mk {d : Nat} (k n : Int) (s : ByteArray) (ps : List (T d)) : nmC (d + 1) (mkT k n s ps) = (if k = 2 then [s] else []) ++ (ps.map (nmC d)).flatten := rfl
theorem rf_nm : ∀ (d : Nat) (t : T d) (l : List ByteArray), rfC d t l = (nmC d t).foldl adS l
  | 0, t, _ => Empty.elim t
  | d + 1, t, l => by
    obtain ⟨k, n, s, ps, rfl⟩ := T.open t
    rw [rfC_mk, nmC_mk, List.foldl_append]
    have e1 : (if k = 2 then [s] else []).foldl adS l = if k = 2 then adS l s else l := by split <;> rfl
    rw [e1]
    generalize (if k = 2 then adS l s else l) = a
    induction ps generalizing a with
    | nil => rfl
    | cons p r ih =>
      simp only [List.foldl_cons, List.map_cons, List.flatten_cons, List.foldl_append]
      rw [rf_nm d p a]
      exact ih _
theorem nm_len : ∀ (d : Nat) (t : T d), (nmC d t).length ≤ cnt d t
  | 0, t => Empty.elim t
  | d + 1, t => by
    obtain ⟨k, n, s, ps, rfl⟩ := T.open t
    rw [nmC_mk, cnt_mk, List.length_append]
    have h1 : (if k = 2 then [s] else []).length ≤ 1 := by split <;> simp
    have h2 : ((ps.map (nmC d)).flatten).length ≤ (ps.map (cnt d)).sum := by
      induction ps with
      | nil => simp
      | cons p r ih =>
        have := nm_len d p
        simp only [List.map_cons, List.flatten_cons, List.length_append, List.sum_cons]
        omega
    omega
abbrev Bs := List UInt8
def Up (l : List Bs) : Prop := l.Pairwise (· < ·)
theorem up_eq : ∀ {a b : List Bs}, Up a → Up b → (∀ x, x ∈ a ↔ x ∈ b) → a = b
  | [], [], _, _, _ => rfl
  | [], y :: b, _, _, h => by have := (h y).2 (by simp); simp at this
  | x :: a, [], _, _, h => by have := (h x).1 (by simp); simp at this
  | x :: a, y :: b, ha, hb, h => by
    obtain ⟨ha1, ha2⟩ := List.pairwise_cons.1 ha
    obtain ⟨hb1, hb2⟩ := List.pairwise_cons.1 hb
    have hxy : x = y := by
      rcases List.mem_cons.1 ((h x).1 (by simp)) with e | e
      · exact e
      · rcases List.mem_cons.1 ((h y).2 (by simp)) with e' | e'
        · exact e'.symm
        · exact absurd (List.lt_trans (hb1 _ e) (ha1 _ e')) (List.lt_irrefl _)
    subst hxy
    have : a = b := up_eq ha2 hb2 (fun z => by
      constructor
      · intro hz
        rcases List.mem_cons.1 ((h z).1 (by simp [hz])) with e | e
        · subst e; exact absurd (ha1 _ hz) (List.lt_irrefl _)
        · exact e
      · intro hz
        rcases List.mem_cons.1 ((h z).2 (by simp [hz])) with e | e
        · subst e; exact absurd (hb1 _ hz) (List.lt_irrefl _)
        · exact e)
    rw [this]
theorem lss_lt (a b : ByteArray) : lss a b = decide (bl a < bl b) := by
  unfold lss
  rw [bytesLess_eq, ByteArray.toList_eq, ByteArray.toList_eq]
theorem bl_inj {a b : ByteArray} (h : bl a = bl b) : a = b := ByteArray.ext (Array.toList_inj.1 h)
/-- A name put into rising ones: they rise; it is there, and what was. -/
theorem adS_up {ls : List ByteArray} (s : ByteArray) (h : Up (ls.map bl)) : Up ((adS ls s).map bl) ∧ ∀ x, x ∈ (adS ls s).map bl ↔ x ∈ ls.map bl ∨ x = bl s := by
  induction ls with
  | nil =>
    have e : adS [] s = [s] := rfl
    rw [e]
    exact ⟨by simp [Up], fun x => by simp⟩
  | cons y r ih =>
    obtain ⟨h1, h2⟩ := List.pairwise_cons.1 h
    obtain ⟨i1, i2⟩ := ih h2
    by_cases hl : bl y < bl s
    · have e1 : lss y s = true := by rw [lss_lt]; exact decide_eq_true hl
      have e2 : lead (y :: r) s = lead r s + 1 := by unfold lead; rw [List.takeWhile_cons, if_pos e1]; rfl
      have e3 : adS (y :: r) s = y :: adS r s := by
        unfold adS
        rw [e2, List.getElem?_cons_succ]
        split
        · rfl
        · simp
      rw [e3]
      refine ⟨List.pairwise_cons.2 ⟨fun x hx => ?_, i1⟩, fun x => ?_⟩
      · rcases (i2 x).1 hx with e | e
        · exact h1 x e
        · rw [e]; exact hl
      · simp only [List.map_cons, List.mem_cons]
        rw [i2 x]
        constructor
        · rintro (e | e | e)
          · exact .inl (.inl e)
          · exact .inl (.inr e)
          · exact .inr e
        · rintro ((e | e) | e)
          · exact .inl e
          · exact .inr (.inl e)
          · exact .inr (.inr e)
    · have e1 : lss y s = false := by rw [lss_lt]; exact decide_eq_false hl
      have e2 : lead (y :: r) s = 0 := by unfold lead; rw [List.takeWhile_cons, if_neg (by rw [e1]; decide)]; rfl
      by_cases he : y = s
      · subst he
        have e3 : adS (y :: r) y = y :: r := by unfold adS; rw [e2]; simp
        rw [e3]
        exact ⟨h, fun x => ⟨.inl, fun e => e.elim id (fun e => by rw [e]; simp)⟩⟩
      · have e3 : adS (y :: r) s = s :: y :: r := by
          unfold adS
          rw [e2, if_neg (by simpa using he)]
          rfl
        rw [e3]
        have hlt : bl s < bl y := by
          rcases List.le_total (bl s) (bl y) with q | q
          · by_cases hq : bl s < bl y
            · exact hq
            · exact absurd (bl_inj (List.le_antisymm (List.not_lt.1 hq) q)) he
          · exact absurd (bl_inj (List.le_antisymm q (List.not_lt.1 hl))) he
        refine ⟨List.pairwise_cons.2 ⟨fun x hx => ?_, h⟩, fun x => ?_⟩
        · rcases List.mem_cons.1 hx with e | e
          · rw [e]; exact hlt
          · exact List.lt_trans hlt (h1 x e)
        · simp only [List.map_cons, List.mem_cons]
          constructor
          · rintro (e | e)
            · exact .inr e
            · exact .inl e
          · rintro (e | e)
            · exact .inr e
            · exact .inl e
theorem fold_up : ∀ (ns ls : List ByteArray), Up (ls.map bl) → Up ((ns.foldl adS ls).map bl) ∧ ∀ x, x ∈ (ns.foldl adS ls).map bl ↔ x ∈ ls.map bl ∨ x ∈ ns.map bl
  | [], ls, h => ⟨h, fun x => by simp⟩
  | s :: r, ls, h => by
    obtain ⟨a1, a2⟩ := adS_up s h
    obtain ⟨b1, b2⟩ := fold_up r (adS ls s) a1
    refine ⟨b1, fun x => ?_⟩
    rw [List.foldl_cons, b2 x, a2 x]
    simp only [List.map_cons, List.mem_cons]
    constructor
    · rintro ((e | e) | e)
      · exact .inl e
      · exact .inr (.inl e)
      · exact .inr (.inr e)
    · rintro (e | e | e)
      · exact .inl (.inl e)
      · exact .inl (.inr e)
      · exact .inr e
def lrB (x y : Bs) : Bool := decide (x ≤ y)
theorem comp_up (zs : List Bs) (h : zs.Pairwise (fun a b => lrB a b = true)) : ∀ m, m ≤ zs.length → Up (compactUpTo zs.toArray m) ∧ ∀ x, x ∈ compactUpTo zs.toArray m ↔ ∃ j, j < m ∧ zs.toArray[j]! = x
  | 0, _ => ⟨List.Pairwise.nil, fun x => by simp [compactUpTo]⟩
  | m + 1, hm => by
    obtain ⟨a1, a2⟩ := comp_up zs h m (by omega)
    have hle : ∀ i j, i < j → j < zs.length → zs.toArray[i]! ≤ zs.toArray[j]! := fun i j hij hj => by
      have := List.pairwise_iff_getElem.1 h i j (by omega) hj hij
      unfold lrB at this
      rw [decide_eq_true_eq] at this
      simpa [getElem!_pos, show i < zs.length by omega, hj] using this
    rw [compactUpTo_succ]
    by_cases hk : keeps zs.toArray m = true
    · rw [if_pos hk]
      refine ⟨List.pairwise_append.2 ⟨a1, by simp, fun x hx y hy => ?_⟩, fun x => ?_⟩
      · simp at hy
        subst hy
        obtain ⟨j, hj, rfl⟩ := (a2 x).1 hx
        have hm0 : m ≠ 0 := by omega
        have hne : zs.toArray[m]! ≠ zs.toArray[m - 1]! := by simpa [keeps, hm0] using hk
        have l1 := hle (m - 1) m (by omega) (by omega)
        have l2 : zs.toArray[m - 1]! < zs.toArray[m]! := by
          by_cases q : zs.toArray[m - 1]! < zs.toArray[m]!
          · exact q
          · exact absurd (List.le_antisymm (List.not_lt.1 q) l1) hne
        have l3 : zs.toArray[j]! ≤ zs.toArray[m - 1]! := by
          rcases Nat.lt_or_ge j (m - 1) with q | q
          · exact hle j (m - 1) q (by omega)
          · have : j = m - 1 := by omega
            subst this
            exact List.not_lt.1 (List.lt_irrefl _)
        have l4 := List.lt_of_le_of_lt l3 l2
        simpa using l4
      · rw [List.mem_append, a2 x]
        constructor
        · rintro (⟨j, hj, e⟩ | e)
          · exact ⟨j, by omega, e⟩
          · exact ⟨m, by omega, (List.mem_singleton.1 e).symm⟩
        · rintro ⟨j, hj, e⟩
          rcases Nat.lt_or_ge j m with q | q
          · exact .inl ⟨j, q, e⟩
          · have : j = m := by omega
            subst this
            exact .inr (by rw [e]; simp)
    · rw [if_neg hk, List.append_nil]
      refine ⟨a1, fun x => ?_⟩
      rw [a2 x]
      have hk' : m ≠ 0 ∧ zs.toArray[m]! = zs.toArray[m - 1]! := by
        simp only [keeps, decide_eq_true_eq] at hk
        exact ⟨fun e => hk (.inl e), Classical.byContradiction (fun q => hk (.inr q))⟩
      constructor
      · rintro ⟨j, hj, e⟩
        exact ⟨j, by omega, e⟩
      · rintro ⟨j, hj, e⟩
        rcases Nat.lt_or_ge j m with q | q
        · exact ⟨j, q, e⟩
        · have : j = m := by omega
          subst this
          exact ⟨j - 1, by omega, by rw [← hk'.2]; exact e⟩
theorem get_bang (zs : List Bs) (j : Nat) (hj : j < zs.length) : zs.toArray[j]! = zs[j] := by simp [getElem!_pos, hj]
/-- Sorted, and each once: what the document's names are. -/
theorem sort_names (ns : List ByteArray) : compact ((ns.map bl).mergeSort lrB) = (ns.foldl adS []).map bl := by
  have tr : ∀ a b c : Bs, lrB a b = true → lrB b c = true → lrB a c = true := fun a b c h1 h2 => by
    unfold lrB at *
    rw [decide_eq_true_eq] at *
    exact List.le_trans h1 h2
  have tot : ∀ a b : Bs, (lrB a b || lrB b a) = true := fun a b => by
    unfold lrB
    rw [Bool.or_eq_true, decide_eq_true_eq, decide_eq_true_eq]
    exact List.le_total a b
  obtain ⟨a1, a2⟩ := comp_up ((ns.map bl).mergeSort lrB) (List.pairwise_mergeSort tr tot _) _ (Nat.le_refl _)
  obtain ⟨b1, b2⟩ := fold_up ns [] (by simp [Up])
  refine up_eq a1 b1 (fun x => ?_)
  rw [show compact ((ns.map bl).mergeSort lrB) = compactUpTo ((ns.map bl).mergeSort lrB).toArray ((ns.map bl).mergeSort lrB).length from rfl, a2 x, b2 x]
  simp only [List.map_nil, List.not_mem_nil, false_or]
  rw [← List.mem_mergeSort (le := lrB) (l := ns.map bl)]
  constructor
  · rintro ⟨j, hj, e⟩
    rw [← e, get_bang _ j hj]
    exact List.getElem_mem hj
  · intro hx
    obtain ⟨j, hj, e⟩ := List.mem_iff_getElem.1 hx
    exact ⟨j, hj, by rw [get_bang _ j hj, e]⟩

theorem vix_look (s : ByteArray) : ∀ (vs : List Vr) (k : Nat), 0 ≤ vix s vs k → ∃ (j : Nat) (h : j < vs.length), vix s vs k = ((k + j : Nat) : Int) ∧ look vs s = wth (vs[j]).2
  | [], k, h => by
    unfold vix at h
    omega
  | x :: r, k, h => by
    unfold vix at h ⊢
    unfold look
    by_cases he : x.1 = s
    · rw [if_pos he, if_pos he]
      exact ⟨0, by simp, by simp, rfl⟩
    · rw [if_neg he] at h
      rw [if_neg he, if_neg he]
      obtain ⟨j, hj, h1, h2⟩ := vix_look s r (k + 1) h
      exact ⟨j + 1, by simp; omega, by rw [h1]; omega, by simpa using h2⟩
/-- The code l stands in c from i on. -/
def AtC (c : List In2) (i : Nat) (l : List In2) : Prop := ∃ a b, c = a ++ l ++ b ∧ a.length = i
theorem AtC.left {c l m : List In2} {i : Nat} (h : AtC c i (l ++ m)) : AtC c i l := by
  obtain ⟨a, b, rfl, rfl⟩ := h
  exact ⟨a, m ++ b, by simp, rfl⟩
theorem AtC.right {c l m : List In2} {i : Nat} (h : AtC c i (l ++ m)) : AtC c (i + l.length) m := by
  obtain ⟨a, b, rfl, rfl⟩ := h
  exact ⟨a ++ l, b, by simp, by simp⟩
theorem AtC.len {c l : List In2} {i : Nat} (h : AtC c i l) : i + l.length ≤ c.length := by
  obtain ⟨a, b, rfl, rfl⟩ := h
  simp
theorem AtC.one {c : List In2} {i : Nat} {x : In2} (h : AtC c i [x]) : ∃ hi : i < c.length, c[i] = x := by
  obtain ⟨a, b, rfl, rfl⟩ := h
  exact ⟨by simp, by simp⟩
theorem at_ok {vs : List Int} {c : List In2} {i : Nat} {x : In2} {st st' : List Int} {p : Nat} (h : AtC c i [x]) (hs : stpI vs (bl x.1) x.2 (c.length - i - 1) st = (p, 0, st')) : rnI vs c i st = rnI vs c (i + p + 1) st' := by
  obtain ⟨hi, e⟩ := h.one
  exact rnI_ok hi (by rw [e]; exact hs)
theorem at_bad {vs : List Int} {c : List In2} {i : Nat} {x : In2} {st st' : List Int} {p : Nat} {e : Int} (h : AtC c i [x]) (hs : stpI vs (bl x.1) x.2 (c.length - i - 1) st = (p, e, st')) (he : ¬ e = 0) : rnI vs c i st = (0, e) := by
  obtain ⟨hi, e1⟩ := h.one
  exact rnI_bad hi (by rw [e1]; exact hs) he
/-- From i on the value is laid on the stack, and it goes on at j; or it ends with the error. -/
def Rto (vs : List Int) (c : List In2) (i j : Nat) (st : List Int) (r : Int × Int) : Prop := (r.2 = 0 → rnI vs c i st = rnI vs c j (r.1 :: st)) ∧ (r.2 ≠ 0 → rnI vs c i st = (0, r.2))
theorem psh_wth {n : Int} {st : List Int} : psh n st = if (wth n).2 = 0 then (0, (wth n).1 :: st) else ((wth n).2, st) := by
  unfold psh wth
  split <;> simp
/-- One instruction that lays a number. -/
theorem rto_psh {vs : List Int} {c : List In2} {i : Nat} {x : In2} {st st0 : List Int} {n : Int} (h : AtC c i [x]) (hs : stpI vs (bl x.1) x.2 (c.length - i - 1) st0 = (0, psh n st)) : (((wth n).2 = 0 → rnI vs c i st0 = rnI vs c (i + 1) ((wth n).1 :: st)) ∧ ((wth n).2 ≠ 0 → rnI vs c i st0 = (0, (wth n).2))) := by
  rw [psh_wth] at hs
  constructor
  · intro h0
    rw [if_pos h0] at hs
    exact at_ok h hs
  · intro h0
    rw [if_neg h0] at hs
    exact at_bad h hs h0
theorem wth_in {n : Int} (h1 : -1000000000 ≤ n) (h2 : n ≤ 1000000000) : wth n = (n, 0) := by
  unfold wth
  rw [if_neg (by omega)]
theorem stp_push (vs : List Int) (n : Int) (b : Nat) (st : List Int) : stpI vs (bl wPush) n b st = (0, litI n st) := rfl
theorem stp_load (vs : List Int) (n : Int) (b : Nat) (st : List Int) : stpI vs (bl wLoad) n b st = (0, lodI vs n st) := rfl
theorem stp_not (vs : List Int) (n : Int) (b : Nat) (x : Int) (st : List Int) : stpI vs (bl wNot) n b (x :: st) = (0, psh (tru (x == 0)) st) := rfl
theorem stp_neg (vs : List Int) (n : Int) (b : Nat) (x : Int) (st : List Int) : stpI vs (bl wNeg) n b (x :: st) = (0, psh (-x) st) := rfl
theorem stp_bool (vs : List Int) (n : Int) (b : Nat) (x : Int) (st : List Int) : stpI vs (bl wBool) n b (x :: st) = (0, psh (tru (x != 0)) st) := rfl
theorem stp_and (vs : List Int) (n : Int) (b : Nat) (st : List Int) : stpI vs (bl wAnd) n b st = jmpS false n b st := rfl
theorem stp_or (vs : List Int) (n : Int) (b : Nat) (st : List Int) : stpI vs (bl wOr) n b st = jmpS true n b st := rfl
theorem stp_two (vs : List Int) {s : List UInt8} (h : s = [43] ∨ s = [45] ∨ s = [42] ∨ s = [60] ∨ s = [60, 61] ∨ s = [61, 61] ∨ s = [33, 61]) (n : Int) (b : Nat) (x y : Int) (st : List Int) : stpI vs s n b (y :: x :: st) = (0, psh (wkI s x y) st) := by
  rcases h with rfl | rfl | rfl | rfl | rfl | rfl | rfl <;> rfl
theorem tru_wth (b : Bool) : wth (tru b) = (tru b, 0) := by
  have := tru_bd b
  exact wth_in (by omega) (by omega)
theorem bin_wk {s : List UInt8} (h : s = [43] ∨ s = [45] ∨ s = [42] ∨ s = [60] ∨ s = [60, 61] ∨ s = [61, 61] ∨ s = [33, 61]) (x y : Int) : bin s x y = wth (wkI s x y) := by
  rcases h with rfl | rfl | rfl | rfl | rfl | rfl | rfl
  · rfl
  · rfl
  · rfl
  · exact (tru_wth _).symm
  · exact (tru_wth _).symm
  · exact (tru_wth _).symm
  · exact (tru_wth _).symm
theorem ops_cases {s : ByteArray} (h : opr s = true) : (bl s = [43] ∨ bl s = [45] ∨ bl s = [42] ∨ bl s = [60] ∨ bl s = [60, 61] ∨ bl s = [61, 61] ∨ bl s = [33, 61]) ∨ bl s = [38, 38] ∨ bl s = [124, 124] := by
  unfold opr ops9 at h
  simp only [List.any_cons, List.any_nil, Bool.or_false, Bool.or_eq_true, beq_iff_eq] at h
  rcases h with h | h | h | h | h | h | h | h | h <;> simp [h]
theorem jmp_go {o : Bool} {n : Nat} {b : Nat} {x : Int} {st : List Int} (hb : n ≤ b) (hx : (x != 0) = o) : jmpS o (n : Int) b (x :: st) = (n, 0, trI o :: st) := by
  unfold jmpS
  rw [if_neg (by omega)]
  simp only [hx, if_true]
  simp
theorem jmp_no {o : Bool} {n : Nat} {b : Nat} {x : Int} {st : List Int} (hb : n ≤ b) (hx : (x != 0) ≠ o) : jmpS o (n : Int) b (x :: st) = (0, 0, st) := by
  unfold jmpS
  rw [if_neg (by omega)]
  simp only [hx, if_false]
set_option maxRecDepth 10000 in
theorem run_cd (vs : List Vr) (c : List In2) : ∀ (d : Nat) (t : T d), Cl d t → sdC d t = true → (∀ s ∈ nmC d t, 0 ≤ vix s vs 0) → ∀ (i : Nat) (st : List Int), AtC c i (cdC vs d t) → Rto (vs.map (·.2)) c i (i + (cdC vs d t).length) st (evC vs d t)
  | 0, t, _, _, _ => Empty.elim t
  | d + 1, t, hc, hs, hn => by
    intro i st ha
    rcases hc.cases with ⟨n, rfl⟩ | ⟨s, rfl⟩ | ⟨k, p, hk, rfl, hp⟩ | ⟨s, p, q, rfl, hp, hq⟩ | rfl
    · rw [cdC_lit] at ha
      rw [cdC_lit, evC_1]
      rw [sdC_mk, if_pos rfl] at hs
      simp only [Bool.and_eq_true, decide_eq_true_eq] at hs
      have hst : stpI (vs.map (·.2)) (bl wPush) n (c.length - i - 1) st = (0, psh n st) := by
        rw [stp_push]
        unfold litI
        rw [if_neg (by omega)]
      obtain ⟨r1, r2⟩ := rto_psh (x := (wPush, n)) ha hst
      rw [wth_in (by omega) (by omega)] at r1
      exact ⟨fun _ => r1 rfl, fun h => absurd rfl h⟩
    · rw [cdC_ref] at ha
      rw [cdC_ref, evC_2]
      obtain ⟨j, hj, h1, h2⟩ := vix_look s vs 0 (hn s (by rw [nmC_mk]; simp))
      have hst : stpI (vs.map (·.2)) (bl wLoad) (vix s vs 0) (c.length - i - 1) st = (0, psh (vs[j]).2 st) := by
        rw [stp_load, h1]
        unfold lodI
        rw [if_neg (by simp; omega)]
        simp [List.getD, hj]
      rw [h2]
      exact rto_psh (x := (wLoad, vix s vs 0)) ha hst
    · have hs' : sdC d p = true := by
        rw [sdC_mk] at hs
        rcases hk with rfl | rfl <;> simpa using hs
      have hn' : ∀ s ∈ nmC d p, 0 ≤ vix s vs 0 := fun s h => hn s (by rw [nmC_mk]; simp [h])
      have hb := evC_bd vs d p hp hs'
      rcases hk with rfl | rfl
      · rw [cdC_not] at ha
        rw [cdC_not, evC_3]
        obtain ⟨a1, a2⟩ := run_cd vs c d p hp hs' hn' i st ha.left
        by_cases he : (evC vs d p).2 = 0
        · rw [if_neg (by simpa using he)]
          obtain ⟨r1, r2⟩ := rto_psh (x := (wNot, 0)) ha.right (stp_not (vs.map (·.2)) 0 _ (evC vs d p).1 st)
          rw [tru_wth] at r1
          refine ⟨fun _ => (a1 he).trans ((r1 rfl).trans (by simp [Nat.add_assoc])), fun h => absurd rfl h⟩
        · rw [if_pos he]
          exact ⟨fun h => absurd h he, fun _ => a2 he⟩
      · rw [cdC_neg] at ha
        rw [cdC_neg, evC_4]
        obtain ⟨a1, a2⟩ := run_cd vs c d p hp hs' hn' i st ha.left
        by_cases he : (evC vs d p).2 = 0
        · rw [if_neg (by simpa using he)]
          obtain ⟨r1, r2⟩ := rto_psh (x := (wNeg, 0)) ha.right (stp_neg (vs.map (·.2)) 0 _ (evC vs d p).1 st)
          rw [wth_in (by omega) (by omega)] at r1
          refine ⟨fun _ => (a1 he).trans ((r1 rfl).trans (by simp [Nat.add_assoc])), fun h => absurd rfl h⟩
        · rw [if_pos he]
          exact ⟨fun h => absurd h he, fun _ => a2 he⟩
    · have hs0 : opr s = true ∧ sdC d p = true ∧ sdC d q = true := by
        rw [sdC_mk] at hs
        simpa using hs
      obtain ⟨ho, hsp, hsq⟩ := hs0
      have hnp : ∀ s ∈ nmC d p, 0 ≤ vix s vs 0 := fun s h => hn s (by rw [nmC_mk]; simp [h])
      have hnq : ∀ s ∈ nmC d q, 0 ≤ vix s vs 0 := fun s h => hn s (by rw [nmC_mk]; simp [h])
      rw [cdC_bin] at ha
      rw [cdC_bin, evC_5]
      have ihp := run_cd vs c d p hp hsp hnp
      have ihq := run_cd vs c d q hq hsq hnq
      obtain ⟨P, hP⟩ : ∃ P, cdC vs d p = P := ⟨_, rfl⟩
      obtain ⟨Q, hQ⟩ : ∃ P, cdC vs d q = P := ⟨_, rfl⟩
      rw [hP] at ihp ha ⊢
      rw [hQ] at ihq ha ⊢
      obtain ⟨x, hx⟩ : ∃ x, evC vs d p = x := ⟨_, rfl⟩
      obtain ⟨y, hy⟩ : ∃ x, evC vs d q = x := ⟨_, rfl⟩
      rw [hx] at ihp ⊢
      rw [hy] at ihq ⊢
      obtain ⟨x1, x2⟩ := x
      obtain ⟨y1, y2⟩ := y
      simp only at *
      rcases ops_cases ho with h7 | h7 | h7
      · have e1 : binI s P Q = P ++ Q ++ [(s, 0)] := by
          unfold binI
          rw [if_neg (by rcases h7 with h | h | h | h | h | h | h <;> rw [h] <;> decide), if_neg (by rcases h7 with h | h | h | h | h | h | h <;> rw [h] <;> decide)]
        rw [e1] at ha ⊢
        have n1 : ¬ bl s = [38, 38] := by rcases h7 with h | h | h | h | h | h | h <;> rw [h] <;> decide
        have n2 : ¬ bl s = [124, 124] := by rcases h7 with h | h | h | h | h | h | h <;> rw [h] <;> decide
        obtain ⟨a1, a2⟩ := ihp i st ha.left.left
        obtain ⟨b1, b2⟩ := ihq (i + P.length) (x1 :: st) ha.left.right
        simp only at a1 a2 b1 b2
        by_cases hx0 : x2 = 0
        · rw [if_neg (by simpa using hx0), if_neg (fun h => n1 h.1), if_neg (fun h => n2 h.1)]
          by_cases hy0 : y2 = 0
          · rw [if_neg (by simpa using hy0), bin_wk h7]
            obtain ⟨r1, r2⟩ := rto_psh (x := (s, 0)) ha.right (stp_two (vs.map (·.2)) h7 0 _ x1 y1 st)
            have hgo : rnI (vs.map (·.2)) c i st = rnI (vs.map (·.2)) c (i + (P ++ Q).length) (y1 :: x1 :: st) := (a1 hx0).trans ((b1 hy0).trans (by simp [Nat.add_assoc]))
            exact ⟨fun h => hgo.trans ((r1 h).trans (by simp [Nat.add_assoc])), fun h => hgo.trans (r2 h)⟩
          · rw [if_pos hy0]
            exact ⟨fun h => absurd h hy0, fun _ => (a1 hx0).trans (b2 hy0)⟩
        · rw [if_pos hx0]
          exact ⟨fun h => absurd h hx0, fun _ => a2 hx0⟩
      · have e1 : binI s P Q = P ++ [(wAnd, ((Q.length + 1 : Nat) : Int))] ++ (Q ++ [(wBool, 0)]) := by
          unfold binI jmpI
          rw [if_pos h7]
        rw [e1] at ha ⊢
        obtain ⟨a1, a2⟩ := ihp i st ha.left.left
        have hj := ha.left.right
        have hq0 := ha.right
        have hlen := ha.len
        simp only [List.length_append, List.length_cons, List.length_nil] at hlen hq0
        simp only at a1 a2
        by_cases hx0 : x2 = 0
        · rw [if_neg (by simpa using hx0)]
          by_cases h1 : x1 = 0
          · rw [if_pos ⟨h7, h1⟩]
            have := at_ok (vs := vs.map (·.2)) (x := (wAnd, ((Q.length + 1 : Nat) : Int))) hj (by rw [stp_and]; exact jmp_go (st := st) (x := x1) (by omega) (by simp [h1]))
            exact ⟨fun _ => (a1 hx0).trans (this.trans (by simp [trI, Nat.add_assoc, Nat.add_comm, Nat.add_left_comm])), fun h => absurd rfl h⟩
          · rw [if_neg (fun h => h1 h.2), if_neg (fun h => by rw [h7] at h; exact absurd h.1 (by decide))]
            have h3 := at_ok (vs := vs.map (·.2)) (x := (wAnd, ((Q.length + 1 : Nat) : Int))) hj (by rw [stp_and]; exact jmp_no (st := st) (x := x1) (by omega) (by simp [h1]))
            obtain ⟨b1, b2⟩ := ihq (i + (P.length + 1)) st (by simpa [Nat.add_assoc] using hq0.left)
            simp only at b1 b2
            have hgo : rnI (vs.map (·.2)) c i st = rnI (vs.map (·.2)) c (i + (P.length + 1)) st := (a1 hx0).trans (h3.trans (by simp [Nat.add_assoc]))
            by_cases hy0 : y2 = 0
            · rw [if_neg (by simpa using hy0)]
              have hbin : bin (bl s) x1 y1 = (tru (y1 != 0), 0) := by rw [h7]; rfl
              rw [hbin]
              have hbo : AtC c (i + (P.length + 1) + Q.length) [(wBool, 0)] := by simpa [Nat.add_assoc] using hq0.right
              obtain ⟨r1, r2⟩ := rto_psh (x := (wBool, 0)) hbo (stp_bool (vs.map (·.2)) 0 _ y1 st)
              rw [tru_wth] at r1
              exact ⟨fun _ => hgo.trans ((b1 hy0).trans ((r1 rfl).trans (by simp [Nat.add_assoc, Nat.add_comm, Nat.add_left_comm]))), fun h => absurd rfl h⟩
            · rw [if_pos hy0]
              exact ⟨fun h => absurd h hy0, fun _ => hgo.trans (b2 hy0)⟩
        · rw [if_pos hx0]
          exact ⟨fun h => absurd h hx0, fun _ => a2 hx0⟩
      · have e1 : binI s P Q = P ++ [(wOr, ((Q.length + 1 : Nat) : Int))] ++ (Q ++ [(wBool, 0)]) := by
          unfold binI jmpI
          rw [if_neg (by rw [h7]; decide), if_pos h7]
        rw [e1] at ha ⊢
        obtain ⟨a1, a2⟩ := ihp i st ha.left.left
        have hj := ha.left.right
        have hq0 := ha.right
        have hlen := ha.len
        simp only [List.length_append, List.length_cons, List.length_nil] at hlen hq0
        simp only at a1 a2
        by_cases hx0 : x2 = 0
        · rw [if_neg (by simpa using hx0), if_neg (fun h => by rw [h7] at h; exact absurd h.1 (by decide))]
          by_cases h1 : x1 = 0
          · rw [if_neg (fun h => h.2 h1)]
            have h3 := at_ok (vs := vs.map (·.2)) (x := (wOr, ((Q.length + 1 : Nat) : Int))) hj (by rw [stp_or]; exact jmp_no (st := st) (x := x1) (by omega) (by simp [h1]))
            obtain ⟨b1, b2⟩ := ihq (i + (P.length + 1)) st (by simpa [Nat.add_assoc] using hq0.left)
            simp only at b1 b2
            have hgo : rnI (vs.map (·.2)) c i st = rnI (vs.map (·.2)) c (i + (P.length + 1)) st := (a1 hx0).trans (h3.trans (by simp [Nat.add_assoc]))
            by_cases hy0 : y2 = 0
            · rw [if_neg (by simpa using hy0)]
              have hbin : bin (bl s) x1 y1 = (tru (y1 != 0), 0) := by rw [h7]; rfl
              rw [hbin]
              have hbo : AtC c (i + (P.length + 1) + Q.length) [(wBool, 0)] := by simpa [Nat.add_assoc] using hq0.right
              obtain ⟨r1, r2⟩ := rto_psh (x := (wBool, 0)) hbo (stp_bool (vs.map (·.2)) 0 _ y1 st)
              rw [tru_wth] at r1
              exact ⟨fun _ => hgo.trans ((b1 hy0).trans ((r1 rfl).trans (by simp [Nat.add_assoc, Nat.add_comm, Nat.add_left_comm]))), fun h => absurd rfl h⟩
            · rw [if_pos hy0]
              exact ⟨fun h => absurd h hy0, fun _ => hgo.trans (b2 hy0)⟩
          · rw [if_pos ⟨h7, h1⟩]
            have := at_ok (vs := vs.map (·.2)) (x := (wOr, ((Q.length + 1 : Nat) : Int))) hj (by rw [stp_or]; exact jmp_go (st := st) (x := x1) (by omega) (by simp [h1]))
            exact ⟨fun _ => (a1 hx0).trans (this.trans (by simp [trI, Nat.add_assoc, Nat.add_comm, Nat.add_left_comm])), fun h => absurd rfl h⟩
        · rw [if_pos hx0]
          exact ⟨fun h => absurd h hx0, fun _ => a2 hx0⟩
    · rw [show (none0 : T (d + 1)) = mkT 0 0 ⟨#[]⟩ [] from rfl, sdC_mk] at hs
      simp at hs
/-- An expression's code, run, has its value. -/
theorem run_code (vs : List Vr) {d : Nat} {t : T d} (hc : Cl d t) (hs : sdC d t = true) (hn : ∀ s ∈ nmC d t, 0 ≤ vix s vs 0) (hl : (cdC vs d t).length ≤ 1000) (hev : (evC vs d t).2 ≠ 0 → (evC vs d t).1 = 0) : runI (vs.map (·.2)) (cdC vs d t) = evC vs d t := by
  unfold runI
  rw [if_neg (by omega)]
  obtain ⟨h1, h2⟩ := run_cd vs (cdC vs d t) d t hc hs hn 0 [] ⟨[], [], by simp, rfl⟩
  by_cases h0 : (evC vs d t).2 = 0
  · rw [h1 h0, rnI_end (by omega)]
    show ((evC vs d t).1, (0 : Int)) = evC vs d t
    rw [← h0]
  · rw [h2 h0, ← hev h0]

/-- What a range tells of a rune. -/
def rn (r : Int) : Int := if r = -1 then 65533 else r
theorem letter_rn (r : Int) : letter (rn r) = letter r := by
  unfold rn
  split
  · rename_i h; subst h; decide
  · rfl
theorem insd_rn (r : Int) : insd (rn r) = insd r := by
  unfold rn
  split
  · rename_i h; subst h; decide
  · rfl
theorem dec_nx {s : ByteArray} {pos : Nat} (h : pos < s.size) : ((Utf8.decode s pos).1 : Int) = rn (nx ((bl s).drop pos)).1 ∧ (Utf8.decode s pos).2 = (nx ((bl s).drop pos)).2 := by
  have hne := drop_ne (l := bl s) (k := pos) (by rw [bl_length]; exact h)
  have hd : decodeL ((bl s).drop pos) = Utf8.decode s pos := decodeL_drop s pos
  refine ⟨?_, by rw [nx_size hne, hd]⟩
  unfold nx rn
  rw [if_neg hne, hd]
  by_cases hc : (Utf8.decode s pos).1 = 65533 ∧ (Utf8.decode s pos).2 ≤ 1
  · rw [if_pos hc, if_pos rfl, hc.1]; rfl
  · rw [if_neg hc, if_neg (by simp only; omega)]

/-- m runes, of k bytes, lie behind us. -/
structure Gone (l : List UInt8) (m k : Nat) : Prop where
  le : k ≤ l.length
  left : runes (l.drop k) = (runes l).drop m
  size : (byt ((runes l).take m)).length = k
  few : m ≤ k
theorem Gone.zero (l : List UInt8) : Gone l 0 0 := ⟨by omega, rfl, rfl, by omega⟩
theorem Gone.step {l : List UInt8} {m k : Nat} (h : Gone l m k) (hk : k < l.length) : Gone l (m + 1) (k + (nx (l.drop k)).2) := by
  have hne := drop_ne hk
  have hc := runes_cons hne
  have hle := nx_le hne
  have hps := nx_pos hne
  rw [List.length_drop] at hle
  have hd : (runes l).drop m = ((nx (l.drop k)).1, (l.drop k).take (nx (l.drop k)).2) :: runes ((l.drop k).drop (nx (l.drop k)).2) := by rw [← h.left, hc]
  have hd1 : (runes l).drop (m + 1) = runes (l.drop (k + (nx (l.drop k)).2)) := by
    have := congrArg List.tail hd
    rw [List.tail_drop, List.tail_cons, List.drop_drop] at this
    exact this
  refine ⟨by omega, hd1.symm, ?_, by have := h.few; omega⟩
  have e1 := byt_split (runes l) (m + 1)
  rw [hd1, byt_runes _ _ (Nat.le_refl _), byt_runes _ _ (Nat.le_refl _), List.length_drop] at e1
  omega
theorem Gone.take {l : List UInt8} {m k : Nat} (h : Gone l m k) (hk : k < l.length) : (runes l).take (m + 1) = (runes l).take m ++ [((nx (l.drop k)).1, (l.drop k).take (nx (l.drop k)).2)] := by
  have hc := runes_cons (drop_ne hk)
  rw [h.left] at hc
  have hlt : m < (runes l).length := by
    rcases Nat.lt_or_ge m (runes l).length with h1 | h1
    · exact h1
    · rw [List.drop_eq_nil_of_le h1] at hc; cases hc
  rw [List.take_succ_eq_append_getElem hlt]
  rw [List.drop_eq_getElem_cons hlt] at hc
  rw [(List.cons.inj hc).1]

theorem pLetter_any (r : Int) (w : World) : Calls Try.prog 62 #[.int .i32 r] w fun e w' => e = .returned (.bool (letter r)) ∧ w = w' := by
  rw [letter_eq]
  go_enter Try.func62, Try.ntmps62
  go_wp2
  all_goals go_ret
  all_goals (refine ⟨ret_bool ?_, rfl⟩; first | rfl | (rw [Bool.eq_iff_iff]; simp; omega) | (rw [Bool.eq_iff_iff]; simp [*]; omega))
theorem pDigit_any (r : Int) (w : World) : Calls Try.prog 69 #[.int .i32 r] w fun e w' => e = .returned (.bool (dgt r)) ∧ w = w' := by
  rw [dgt_eq]
  go_enter Try.func69, Try.ntmps69
  go_wp2
  all_goals go_ret
  all_goals (refine ⟨ret_bool ?_, rfl⟩; first | rfl | (rw [Bool.eq_iff_iff]; simp; omega) | (rw [Bool.eq_iff_iff]; simp [*]; omega))
theorem pInside_any (r : Int) (w : World) : Calls Try.prog 61 #[.int .i32 r] w fun e w' => e = .returned (.bool (insd r)) ∧ w = w' := by
  have h1 := pLetter_any r w
  have h2 := pDigit_any r w
  have h3 : insd r = (letter r || dgt r || r == 95) := rfl
  rw [h3]
  cases ha : letter r <;> rw [ha] at h1
  · cases hb : dgt r <;> rw [hb] at h2
    · go_enter Try.func61, Try.ntmps61
      go_wp2_with (first
        | (go_at_call 62; refine h1.mono ?_; rintro e w' ⟨rfl, rfl⟩)
        | (go_at_call 69; refine h2.mono ?_; rintro e w' ⟨rfl, rfl⟩))
      go_ret
      exact ⟨ret_bool (by simp), rfl⟩
    · go_enter Try.func61, Try.ntmps61
      go_wp2_with (first
        | (go_at_call 62; refine h1.mono ?_; rintro e w' ⟨rfl, rfl⟩)
        | (go_at_call 69; refine h2.mono ?_; rintro e w' ⟨rfl, rfl⟩))
      go_ret
      exact ⟨ret_bool (by simp), rfl⟩
  · go_enter Try.func61, Try.ntmps61
    go_wp2_with (first
      | (go_at_call 62; refine h1.mono ?_; rintro e w' ⟨rfl, rfl⟩)
      | (go_at_call 69; refine h2.mono ?_; rintro e w' ⟨rfl, rfl⟩))
    go_ret
    exact ⟨ret_bool (by simp), rfl⟩


theorem nameS_short {l : List UInt8} (h : spb l ≠ l.length) : nameS l = false := by
  unfold nameS
  have : ((spb l : Int) == (l.length : Int)) = false := beq_eq_false_iff_ne.2 (by omega)
  rw [this]; simp
theorem nameS_head {l : List UInt8} (h : letter (nx l).1 = false) : nameS l = false := by
  unfold nameS
  rw [h]; simp
theorem nameS_all {l : List UInt8} {m : Nat} (h1 : letter (nx l).1 = true) (h2 : spb l = l.length) (h3 : spn (runes l) = m) : nameS l = decide ((m : Int) ≤ 24) := by
  unfold nameS
  rw [h1, h2, h3]
  rw [Bool.eq_iff_iff]
  simp
  omega

set_option maxHeartbeats 1000000 in
theorem pName_any (s : ByteArray) (w : World) (hs : s.size ≤ 140737488351232) :
    Calls Try.prog 46 #[.string s] w fun e w' => e = .returned (.bool (nameS (bl s))) ∧ Below w.heap.size w w' := by
  go_enter Try.func46, Try.ntmps46
  go_wp2
  go_loopw [3] (fun c wr => ∃ (m k : Nat), c = .int .i64 (m : Int) ∧ wr.heap[w.heap.size]? = some (.stringIter s k) ∧ Hid (Adv (bl s) m k) ∧ (m = 0 → k = 0) ∧ Hid (0 < m → letter (nx (bl s)).1 = true) ∧ Below w.heap.size w wr) (fun _ wr => s.size - wr.iterPos w.heap.size)
  case atStart => exact ⟨0, 0, rfl, World.iter_heap w s 0, Adv.zero _, fun _ => rfl, fun h => by omega, (Below.refl _ w).alloc (Nat.le_refl _) _⟩
  case round =>
    obtain ⟨m, k, rfl, hit, ha, hm0, hlt, hb⟩ := hrel
    have hle := ha.out.le
    have hfw := ha.out.few
    rw [bl_length] at hle
    by_cases hk : k < s.size
    · have hnx : ∀ ty, (Instr.next (.pointer (some ⟨w.heap.size, 0, none⟩)) true ty).run Try.prog wr = _ := fun ty => Lib.run_next_any_at wr w.heap.size s k ty hit hk
      obtain ⟨d1, d2⟩ := dec_nx hk
      have hne := drop_ne (l := bl s) (by rw [bl_length]; exact hk)
      have hps := nx_pos hne
      have hnl := nx_le hne
      rw [List.length_drop, bl_length] at hnl
      obtain ⟨r, hr⟩ : ∃ r, (nx ((bl s).drop k)).1 = r := ⟨_, rfl⟩
      obtain ⟨q, hq⟩ : ∃ q, (nx ((bl s).drop k)).2 = q := ⟨_, rfl⟩
      rw [hr] at d1
      rw [hq] at d2 hps hnl
      rw [d1, d2] at hnx
      have hit2 := Lib.iterAt_heap wr w.heap.size s k (k + q) hit
      have hb2 := Lib.below_iterAt hb (k := w.heap.size) (Nat.le_refl _) s (k + q)
      have h26 := fun w1 => pInside_any (rn r) w1
      have h27 := fun w1 => pLetter_any (rn r) w1
      rw [insd_rn] at h26
      rw [letter_rn] at h27
      cases hi : insd r with
      | true =>
        rw [hi] at h26
        have hA : Hid (Adv (bl s) (m + 1) (k + q)) := by have := ha.out.step (by rw [bl_length]; exact hk) (by rw [hr]; exact hi); rw [hq] at this; exact this
        by_cases hmz : m = 0
        · have e0 : ((m : Int) == 0) = true := by simp; omega
          have hk0 := hm0 hmz
          have hrr : (nx (bl s)).1 = r := by rw [← hr, hk0]; rfl
          cases hl : letter r with
          | true =>
            rw [hl] at h27
            have hL : Hid (0 < m + 1 → letter (nx (bl s)).1 = true) := fun _ => by rw [hrr]; exact hl
            clear hr hq hne hi d1 d2 hrr hl hm0 hmz hk0
            go_wp2_with (first
              | (go_at_call 61; refine (h26 _).mono ?_; rintro e w' ⟨rfl, rfl⟩)
              | (go_at_call 62; refine (h27 _).mono ?_; rintro e w' ⟨rfl, rfl⟩))
            go_roundw
            case rel => exact ⟨m + 1, k + q, by go_num, hit2, hA, fun h => by omega, hL, hb2⟩
            case measure => rw [iterPos_of hit2, iterPos_of hit]; omega
          | false =>
            rw [hl] at h27
            have hF : Hid (nameS (bl s) = false) := nameS_head (by rw [hrr]; exact hl)
            clear hr hq hne hi d1 d2 hrr hl hm0 hmz hk0
            go_wp2_with (first
              | (go_at_call 61; refine (h26 _).mono ?_; rintro e w' ⟨rfl, rfl⟩)
              | (go_at_call 62; refine (h27 _).mono ?_; rintro e w' ⟨rfl, rfl⟩))
            go_ret
            rw [hF.out]
            exact ⟨rfl, hb2⟩
        · have e0 : ((m : Int) == 0) = false := beq_eq_false_iff_ne.2 (by omega)
          have hL : Hid (0 < m + 1 → letter (nx (bl s)).1 = true) := fun _ => hlt.out (by omega)
          clear hr hq hne hi d1 d2 hm0 hmz
          go_wp2_with (first
            | (go_at_call 61; refine (h26 _).mono ?_; rintro e w' ⟨rfl, rfl⟩))
          go_roundw
          case rel => exact ⟨m + 1, k + q, by go_num, hit2, hA, fun h => by omega, hL, hb2⟩
          case measure => rw [iterPos_of hit2, iterPos_of hit]; omega
      | false =>
        rw [hi] at h26
        have hE : Hid (spn (runes (bl s)) = m) := ha.out.stop (.inr (by rw [hr]; exact hi))
        have hZ : Hid (spb (bl s) = k) := by show spb (bl s) = k; unfold spb; rw [hE.out]; exact ha.out.size
        have hF : Hid (nameS (bl s) = false) := nameS_short (by rw [hZ.out, bl_length]; omega)
        clear hr hq hne hi d1 d2 hm0
        go_wp2_with (first
          | (go_at_call 61; refine (h26 _).mono ?_; rintro e w' ⟨rfl, rfl⟩))
        go_ret
        rw [hF.out]
        exact ⟨rfl, hb2⟩
    · have hnx : ∀ ty, (Instr.next (.pointer (some ⟨w.heap.size, 0, none⟩)) true ty).run Try.prog wr = _ := fun ty => Lib.run_next_end_at wr w.heap.size s k ty hit hk
      have hE : Hid (spn (runes (bl s)) = m) := ha.out.stop (.inl (by rw [bl_length]; omega))
      have hZ : Hid (spb (bl s) = k) := by show spb (bl s) = k; unfold spb; rw [hE.out]; exact ha.out.size
      have hks : k = s.size := by omega
      by_cases hmz : m = 0
      · have hF : Hid (nameS (bl s) = false) := by
          have : bl s = [] := List.eq_nil_of_length_eq_zero (by rw [bl_length]; have := hm0 hmz; omega)
          show nameS (bl s) = false
          rw [this]; rfl
        subst hmz
        clear hm0
        go_wp2
        go_ret
        rw [hF.out]
        exact ⟨rfl, hb⟩
      · have hF : Hid (nameS (bl s) = decide ((m : Int) ≤ 24)) := nameS_all (hlt.out (by omega)) (by rw [hZ.out, hks]; rfl) hE.out
        have e1 : (1 : Int) ≤ (m : Int) := by omega
        clear hm0
        go_wp2
        all_goals go_ret
        all_goals rw [hF.out]
        all_goals exact ⟨rfl, hb⟩



abbrev ps (a b : Int) : Value := .agg #[.int .i64 a, .int .i64 b]
/-- A string's iterator. -/
def It0 (w : World) (k : Nat) (s : ByteArray) (p : Nat) : Prop := w.heap[k]? = some (.stringIter s p)
theorem It0.keepB {w w' : World} {k B : Nat} {s : ByteArray} {p : Nat} (h : It0 w k s p) (hb : Below B w w') (hB : k < B) : It0 w' k s p := (hb.block k hB).trans h
theorem It0.lt {w : World} {k : Nat} {s : ByteArray} {p : Nat} (h : It0 w k s p) : k < w.heap.size := (Array.getElem?_eq_some_iff.1 h).1
theorem It0.keep {w w' : World} {k : Nat} {s : ByteArray} {p : Nat} (h : It0 w k s p) (hb : Below w.heap.size w w') : It0 w' k s p := h.keepB hb h.lt
theorem It0.set {w : World} {k X i : Nat} {s : ByteArray} {p : Nat} (h : It0 w k s p) (hne : X ≠ k) (v : Value) : It0 (w.setCell ⟨X, i, none⟩ v) k s p := by
  unfold It0
  rw [Below.heap_setCell _ _ _ _ (fun e => hne e.symm)]
  exact h

end Go.Proofs.Ytpdkmbifibkepaa
