import Derived.Test.YtbccdkhbplmknaaWmc02
import Derived.Deep.RegionHeldLaw
import Derived.Deep.DeepCutAuto
import Derived.Shelf.Abstract
import Derived.Shelf.RegionOpen
import Derived.WalkKit
import Derived.OwnWalkIn
import Derived.TacticsInMore
import Derived.LoopNIn
import Derived.LoopIn
import Derived.Sort.LoopGhostIn
import Derived.Maps.OwnIn
import Derived.WalkSmall
import Derived.OrdersIn
import Derived.OrdersHeld
import Derived.TacticsIn

/- Nodes in memory. -/
namespace Go.Proofs.Ytbccdkhbplmknaa
open Go.RowKit Go.Lib
set_option linter.unusedSimpArgs false
set_option linter.unusedVariables false

/-- A node: name; parent, depth, behind; all, end, leaf. -/
abbrev Nd := ByteArray × (Int × Int × Int) × (Bool × Bool × Bool)
def ndV (n : Nd) : List Value := [.string n.1, .int .i64 n.2.1.1, .int .i64 n.2.1.2.1, .int .i64 n.2.1.2.2, .bool n.2.2.1, .bool n.2.2.2.1, .bool n.2.2.2.2]
def ndZ : Nd := (⟨#[]⟩, (0, 0, 0), (false, false, false))
def nAt (l : List Nd) (i : Nat) : Nd := l.getD i ndZ
def nP (l : List Nd) (i : Nat) : Int := (nAt l i).2.1.1
def nD (l : List Nd) (i : Nat) : Int := (nAt l i).2.1.2.1
def nB (l : List Nd) (i : Nat) : Int := (nAt l i).2.1.2.2
def nL (l : List Nd) (i : Nat) : Bool := (nAt l i).2.2.2.2
def rNd (ok : Nat → Prop) (w : World) (n : Nd) (cs : List Value) : Prop := cs = ndV n
theorem kp_nd : Kp rNd := fun _ _ _ _ _ _ h _ => h
abbrev RdNd (ok : Nat → Prop) (w : World) (l : List Nd) (v : Value) : Prop := RdK ok w 7 (rNd ok w) l v
theorem nAt_get {l : List Nd} {j : Nat} (hj : j < l.length) : nAt l j = l[j] := by unfold nAt; simp [hj]
/-- A node's cells. -/
theorem nd_at {ok : Nat → Prop} {w : World} {l : List Nd} {a : Option Addr} {n cap : Nat} (h : RdNd ok w l (.slice a n cap)) (j : Nat) (hj : j < l.length) : ∃ b off, a = some ⟨b, off, none⟩ ∧ b < w.heap.size ∧
    w.cell? ⟨b, off + j * 7, none⟩ = some (.string (nAt l j).1) ∧ w.cell? ⟨b, off + j * 7 + 1, none⟩ = some (.int .i64 (nP l j)) ∧ w.cell? ⟨b, off + j * 7 + 2, none⟩ = some (.int .i64 (nD l j)) ∧ w.cell? ⟨b, off + j * 7 + 3, none⟩ = some (.int .i64 (nB l j)) ∧
    w.cell? ⟨b, off + j * 7 + 4, none⟩ = some (.bool (nAt l j).2.2.1) ∧ w.cell? ⟨b, off + j * 7 + 5, none⟩ = some (.bool (nAt l j).2.2.2.1) ∧ w.cell? ⟨b, off + j * 7 + 6, none⟩ = some (.bool (nL l j)) := by
  obtain ⟨a1, cap1, he, h1, h2, h3⟩ := h
  simp only [Value.slice.injEq] at he
  obtain ⟨rfl, rfl, rfl⟩ := he
  obtain ⟨b, off, cs, ha, _, hb, hl, hr, hc⟩ := h3 j hj
  have hr : cs = ndV l[j] := hr
  subst hr
  rw [← nAt_get hj] at hc
  exact ⟨b, off, ha, hb, hc 0 _ rfl, hc 1 _ rfl, hc 2 _ rfl, hc 3 _ rfl, hc 4 _ rfl, hc 5 _ rfl, hc 6 _ rfl⟩
instance (D : Nat → Int) (n : Nat) : Decidable (nst D n) := by unfold nst; infer_instance
instance (n : Nat) (D P B : Nat → Int) (L : Nat → Bool) : Decidable (FmP n D P B L) := by unfold FmP; infer_instance
/-- Are nodes formed? -/
def fmB (l : List Nd) : Bool := decide (FmP l.length (nD l) (nP l) (nB l) (nL l))
def nsB (l : List Nd) : Bool := decide (nst (nD l) l.length)
/-- A node as it follows of how deep they lie. -/
def plN (l : List Nd) (i : Nat) : Nd := ((nAt l i).1, (ppar (nD l) (nD l i) i, nD l i, (pbeh (nD l) (nD l i) (l.length - (i + 1)) (i + 1) : Nat)), ((nAt l i).2.2.1, (nAt l i).2.2.2.1, decide (pbeh (nD l) (nD l i) (l.length - (i + 1)) (i + 1) = i + 1)))
theorem cell_drw {w : World} {p : Addr} {v : Value} (h : w.cell? p = some v) : w.drew.cell? p = some v := h
theorem Below.nxt {w wc w1 : World} (h : Below w.heap.size w wc) (b : Below wc.heap.size wc w1) : Below w.heap.size w w1 := h.trans (b.mono h.size)
theorem Below.nxtd {w wc w1 : World} (h : Below w.heap.size w wc) (b : Below wc.drew.heap.size wc.drew w1) : Below w.heap.size w w1 := (h.drew).trans (b.mono h.size)
theorem hidOf {p : Prop} (h : p) : Hid p := h
theorem RdK.on {α : Type} {ok : Nat → Prop} {w w' : World} {k : Nat} {R : (Nat → Prop) → World → α → List Value → Prop} {v : Value} {l : List α} (hR : Kp R) (h : RdK ok w k (R ok w) l v) (hb : Below w.heap.size w w') : RdK ok w' k (R ok w') l v :=
  h.stay hR (fun b hk hlt => ⟨hk, hb.block b hlt⟩)
end Go.Proofs.Ytbccdkhbplmknaa

/- What the iterator over all of a chart's states hands on. -/
namespace Go.Proofs.Ytbccdkhbplmknaa
open Go.RowKit Go.Lib Go.Shelf
set_option linter.unusedSimpArgs false
set_option linter.unusedVariables false
attribute [local go_sem] Oper.semAt_some

def encS (x : Fx3) : Array Value := #[.int .i64 (x.1 : Int), .agg x.2.2.toArray]
theorem Try.infoStk : (Try.prog.info? 35).map (fun i => (i.zero, i.size, i.bytes)) = some (some (.slice none 0 0), 1, 24) := by kernel_rfl
def stkV (st : List Ent) : List Value := st.reverse.map (fun e => e.2.2)
theorem states_in (F : Fence) (n : Nat) (hf : F.fn 30) (hro : F.round = none) (a b c e f g : Value) (w : World) :
    CallsIn F n Try.prog 30 #[.agg #[a, b, c, e, f, g]] w fun r w' => r = .returned (.func (.func 56) #[] #[.pointer (some ⟨w.heap.size, 0, none⟩)]) ∧ w' = w.alloc (.cells #[a, b, c, e, f, g] 37) := by
  refine callsIn_of_wp Try.func30 rfl hf ?_ hro
  simp only [Try.ntmps30, List.size_toArray, List.length_cons, List.length_nil, Nat.reduceAdd, Nat.reduceSub, Array.replicate_succ, Array.replicate_zero, List.push_toArray, List.append_toArray, List.nil_append, List.cons_append]
  gi_wp2
  go_ret
  exact ⟨rfl, rfl⟩
set_option maxRecDepth 100000 in
set_option maxHeartbeats 4000000 in
theorem states1_in (F : Fence) (n : Nat) (hf : F.fn 56) (hro : F.round = none) (hn : 1 ≤ n) (l X m d : Nat) (ls : List (St d)) (sv : Value) (xs : List Fx3) (J Jx : List Fx3 → (Nat → Prop) → World → Prop) (ok : Nat → Prop) (o : Nat → Prop) (W : World)
    (hJl : ∀ s o A, J s o A → ∀ k, o k → k < A.heap.size ∧ m ≤ k) (hJ : Stb m J) (hJx : Stb m Jx)
    (hY : ∀ pre x rest o W1, xs = pre ++ x :: rest → J pre o W1 → YieldAt F (n - 1) Try.prog l (encS x) W1 fun e W' =>
      (e = .returned (.bool true) ∧ ∃ o', J (pre ++ [x]) o' W' ∧ Fp m o o' W1 W') ∨ (e = .returned (.bool false) ∧ ∃ o', Jx (pre ++ [x]) o' W'))
    (hX : W.cell? ⟨X, 5, none⟩ = some sv) (hok : ∀ b, ok b → b < m) (hm : m ≤ W.heap.size) (hrd : RdK ok W 11 (rSt d ok W) ls sv) (hxs : xs = flX W d 0 ls sv) (hlen : xs.length ≤ 1000000) (h0 : J [] o W) :
    CallsIn F n Try.prog 56 (#[.func (.yield l) #[] #[], .pointer (some ⟨X, 0, none⟩)]) W fun e W' => (∃ v, e = .returned v) ∧ ((∃ o, J xs o W') ∨ (∃ pre o, pre <+: xs ∧ Jx pre o W')) := by
  obtain ⟨i0, hi, hz0, hz1, hz2⟩ := info_parts Try.infoStk
  obtain ⟨sa, scap, rfl, hsc, hscm⟩ := hrd.form
  have HR := hidOf hrd
  have HX := hidOf hxs
  clear hrd hxs
  refine callsIn_of_wp Try.func56 rfl hf ?_ hro
  simp only [Try.ntmps56, List.size_toArray, List.length_cons, List.length_nil, Nat.reduceAdd, Nat.reduceSub, Array.replicate_succ, Array.replicate_zero, List.push_toArray, List.append_toArray, List.nil_append, List.cons_append]
  have bW : Below W.heap.size W (W.alloc (.cells #[.slice sa ls.length scap] 35)) := (Below.refl _ _).alloc (Nat.le_refl _) _
  have c0 : J [] o (W.alloc (.cells #[.slice sa ls.length scap] 35)) := hJ _ _ _ _ h0 (Sm.alloc _ _ _)
  have r0 : (W.alloc (.cells #[.slice sa ls.length scap] 35)).ownsRow W.heap.size 35 1 (.slice (some ⟨W.heap.size, 0, none⟩) 1 1) 1 (stkV [⟨d, ls, .slice sa ls.length scap⟩]) := World.ownsRow_lit W #[.slice sa ls.length scap] 1 (Nat.le_refl _) (by simp [maxLen]) rfl
  gi_wp2
  obtain ⟨w0, hw0⟩ : ∃ w0, W.alloc (.cells #[.slice sa ls.length scap] 35) = w0 := ⟨_, rfl⟩
  have hg0 : W.heap.size < w0.heap.size := by rw [← hw0]; simp
  rw [hw0] at bW c0 r0 ⊢
  clear hw0
  have hno : ¬ o W.heap.size := fun h => by have := (hJl _ _ _ h0 _ h).1; omega
  gi_loopg [3] (2 * xs.length + 1) (fun gk lv wr => ∃ (pre rest : List Fx3) (o : Nat → Prop) (st : List Ent) (g cap : Nat), xs = pre ++ rest ∧ Hid (rest = remT W st) ∧ (∀ e ∈ st, EntOk ok W e) ∧ lv = .slice (some ⟨g, 0, none⟩) st.length cap ∧ wr.ownsRow W.heap.size 35 1 (.slice (some ⟨g, 0, none⟩) st.length cap) st.length (stkV st) ∧ J pre o wr ∧ ¬ o g ∧ Below m W wr ∧ W.heap.size ≤ wr.heap.size ∧ st.length ≤ pre.length + 1 ∧ gk = 2 * rest.length + st.length)
  case atStart => exact ⟨[], xs, o, [⟨d, ls, .slice sa ls.length scap⟩], W.heap.size, 1, rfl, by rw [HX.out]; simp [Hid, remT], fun e he => by simp at he; subst he; exact HR.out, rfl, r0, c0, hno, bW.mono hm, bW.size, by simp, by simp⟩
  case round =>
    obtain ⟨pre, rest, o, st, g, cap, hxs, HS, hst, rfl, hown, hj, hng, hB, hsz, hlen2, hgk⟩ := hrel
    have hlt := World.ownsRow.lt hown g rfl
    have HG := hidOf hgk
    have HXS := hidOf hxs
    clear hgk hxs
    cases st with
    | nil =>
      have hr : rest = [] := by rw [HS.out]; rfl
      simp only [List.length_nil]
      gi_wp2
      go_end0
      refine ⟨⟨_, rfl⟩, .inl ⟨o, ?_⟩⟩
      rw [HXS.out, hr, List.append_nil]
      exact hj
    | cons e r =>
      obtain ⟨ed, el, ev⟩ := e
      have hE : RdK ok W 11 (rSt ed ok W) el ev := hst _ List.mem_cons_self
      have hst' : ∀ e ∈ r, EntOk ok W e := fun e he => hst e (List.mem_cons_of_mem _ he)
      obtain ⟨ea, ecap, rfl, hec, hecm⟩ := hE.form
      simp only [List.length_cons] at hown hlen2 HG ⊢
      obtain ⟨k, hk⟩ : ∃ k, r.length = k := ⟨_, rfl⟩
      have hs1 : stkV (⟨ed, el, .slice ea el.length ecap⟩ :: r) = stkV r ++ [.slice ea el.length ecap] := by simp [stkV]
      have hsl : (stkV r).length = k := by simp [stkV, hk]
      rw [hs1, hk] at hown
      rw [hk] at hlen2
      have hcap : k + 1 ≤ cap ∧ cap ≤ maxLen := by
        rcases hown.2 with ⟨h, _⟩ | ⟨g', cap', cur, h1, _, _, h3, h4, _⟩
        · cases h
        · simp only [Value.slice.injEq, Option.some.injEq, Addr.mk.injEq, and_true, true_and] at h1
          obtain ⟨_, rfl⟩ := h1
          exact ⟨h3, h4⟩
      obtain ⟨hcap1, hcap2⟩ := hcap
      unfold maxLen at hcap2 hecm
      have hck : wr.cell? ⟨g, k, none⟩ = some (.slice ea el.length ecap) := by
        have := World.ownsRow.cells hown (g := g) rfl k (.slice ea el.length ecap) (by simp [hsl])
        rwa [add_plain, Nat.zero_add] at this
      have hpop := ownsRow_pop (by rw [hsl, Nat.mul_one]) hown
      rw [hk]
      have w1 : IntKind.i64.wrap (((k + 1 : Nat) : Int) - 1) = (k : Int) := by rw [wrap_small] <;> omega
      have w2 : IntKind.i64.wrap ((k : Int) + 1 - 1) = (k : Int) := by rw [wrap_small] <;> omega
      cases el with
      | nil =>
        simp only [List.length_nil] at hck ⊢
        gi_wp2
        gi_roundg (2 * rest.length + k)
        case measure => rw [HG.out, hk]; omega
        case rel =>
          exact ⟨pre, rest, o, r, g, cap, HXS.out, by have := HS.out; rw [remT_nil] at this; exact this, hst', by rw [hk], by rw [hk]; exact hpop, hj, hng, hB, hsz, by omega, by rw [hk]⟩
      | cons t el =>
        cases ed with
        | zero => exact Empty.elim t
        | succ ed =>
          obtain ⟨b, off, cap', hv, h1, h2, hob, hb, ⟨so, si, hcs, hso, hsi⟩, hcells, htail⟩ := rdK_head hE
          simp only [List.length_cons, Value.slice.injEq, true_and] at hv
          obtain ⟨rfl, rfl⟩ := hv
          simp only [List.length_cons] at hck hec ⊢
          have hbm := hok b hob
          have hcc : ∀ j u, (hdV t.1 so si)[j]? = some u → wr.cell? ⟨b, off + j, none⟩ = some u := fun j u hu => (hB.cell (p := ⟨b, off + j, none⟩) hbm).trans (hcells j u (by rw [hcs]; exact hu))
          have q0 := hcc 0 _ rfl
          have q1 := hcc 1 _ rfl
          have q2 := hcc 2 _ rfl
          have q3 := hcc 3 _ rfl
          have q4 := hcc 4 _ rfl
          have q5 := hcc 5 _ rfl
          have q6 := hcc 6 _ rfl
          have q7 := hcc 7 _ rfl
          have q8 := hcc 8 _ rfl
          have q9 := hcc 9 _ rfl
          have q10 := hcc 10 _ rfl
          clear hcc
          rw [Nat.add_zero] at q0
          obtain ⟨siA, siC, rfl, hsi1, hsi2⟩ := hsi.form
          obtain ⟨x, hx⟩ : ∃ x : Fx3, (k, (⟨ed + 1, t⟩ : SgS), hdV t.1 so (.slice siA t.2.length siC)) = x := ⟨_, rfl⟩
          have HS2 : ∀ a', (el ≠ [] → a' = some ⟨b, off + 11, none⟩) → Hid (rest = x :: remT W (⟨ed, t.2, .slice siA t.2.length siC⟩ :: ⟨ed + 1, el, .slice a' el.length (ecap - 1)⟩ :: r)) := fun a' ha' => by
            have h := HS.out
            rw [List.length_cons, remT_cons (ok := ok) (a' := a') (n' := el.length) (c' := ecap - 1) r ha', hcs, hk] at h
            rw [← hx]
            exact h
          obtain ⟨rest', hrest'⟩ : ∃ rest', rest = x :: rest' := ⟨_, (HS2 (some ⟨b, off + 11, none⟩) (fun _ => rfl)).out⟩
          obtain ⟨fn, tmps, assign, body, hy, hR⟩ := hY pre x rest' o wr (by rw [HXS.out, hrest']) hj
          have hex : encS x = #[.int .i64 (k : Int), .agg (hdV t.1 so (.slice siA t.2.length siC)).toArray] := by rw [← hx]; rfl
          rw [hex] at hy
          unfold hdV at hy
          have hgm : m ≤ g := by omega
          gi_wp2
          refine hR.mono ?_
          rintro e W3 (⟨rfl, o', hj3, hf3⟩ | ⟨rfl, o', hjx3⟩)
          · have hg3 : W3.heap[g]? = wr.heap[g]? := hf3.1.block g hlt.2 (.inr hng)
            have hng3 : ¬ o' g := fun h => by rcases hf3.2 g h with h | h; exact hng h; omega
            have hB3 : Below m W W3 := hB.trans (hf3.1.below (by omega) (fun i hi => .inl hi))
            have hown3 := ownsRow_keep hown (w' := W3) (fun g' e => by cases e; exact hg3)
            have hck3 : W3.cell? ⟨g, k, none⟩ = some (.slice (some ⟨b, off, none⟩) (el.length + 1) ecap) := (World.cell?_of_block (a := ⟨g, k, none⟩) hg3).trans hck
            have hfz3 := World.ownsRow.frozenAt hown3 k
            obtain ⟨a1, ha1⟩ : ∃ a1 : Option Addr, (if ecap = 1 then some (⟨b, off, none⟩ : Addr) else some ⟨b, off + 11, none⟩) = a1 := ⟨_, rfl⟩
            have ha2 : el ≠ [] → a1 = some ⟨b, off + 11, none⟩ := fun h => by
              rw [← ha1, if_neg]
              have : 0 < el.length := List.length_pos_iff.2 h
              omega
            have hst4 := World.ownsRow.stored hown3 k (.slice a1 el.length (ecap - 1))
            have e4 : (stkV r ++ [Value.slice (some ⟨b, off, none⟩) (el.length + 1) ecap]).set k (.slice a1 el.length (ecap - 1)) = stkV r ++ [.slice a1 el.length (ecap - 1)] := by
              rw [← hsl]; simp
            rw [List.length_cons, e4] at hst4
            obtain ⟨hown4, hg4⟩ := hst4
            have c10 : W3.cell? ⟨b, off + 10, none⟩ = some (.slice siA t.2.length siC) := (hB3.cell (p := ⟨b, off + 10, none⟩) hbm).trans (by rw [← hB.cell (p := ⟨b, off + 10, none⟩) hbm]; exact q10)
            have c10' : (W3.setCell ⟨g, k, none⟩ (.slice a1 el.length (ecap - 1))).cell? ⟨b, off + 10, none⟩ = some (.slice siA t.2.length siC) := hg4.cell c10 (by simp; omega)
            have hsz3 : W.heap.size ≤ W3.heap.size := Nat.le_trans hsz hf3.1.size
            clear q0 q1 q2 q3 q4 q5 q6 q7 q8 q9 q10
            have hpl : pre.length + 1 ≤ 1000000 := by
              have := congrArg List.length HXS.out
              rw [hrest'] at this
              simp at this
              omega
            have hs4 : (W3.setCell ⟨g, k, none⟩ (.slice a1 el.length (ecap - 1))).heap.size = W3.heap.size := by simp [World.setCell]
            have hsrc : ∀ j u, [Value.slice siA t.2.length siC][j]? = some u → ((W3.setCell ⟨g, k, none⟩ (.slice a1 el.length (ecap - 1))).alloc (.cells #[.slice siA t.2.length siC] 35)).cell? ((⟨W3.heap.size, 0, none⟩ : Addr).add j) = some u := by
              rw [← hs4]
              exact cell_one_new _ _ _
            have hkm : k + 1 + 1 ≤ maxLen := by unfold maxLen; omega
            have hba : W.heap.size ≤ ((W3.setCell ⟨g, k, none⟩ (.slice a1 el.length (ecap - 1))).alloc (.cells #[.slice siA t.2.length siC] 35)).heap.size := by simp; omega
            gi_wp2_with (gi_at_builtin; refine wpListIn_append_own_at _ rfl _ _ 114 rfl W.heap.size 35 i0 (.slice none 0 0) 1 24 Try.underlying114 hi hz0 hz1 hz2 rfl (by decide) _ _ _ rfl (hown4.alloc _) ⟨W3.heap.size, 0, none⟩ 1 1 [.slice siA t.2.length siC] rfl rfl hsrc (by simp [Value.oneCell']) hkm (by omega) hba ?_; intro v' w5 hown5 hg5 hnil5 hat5)
            obtain ⟨g5, cap5, rfl⟩ := ownsRow_succ hown5
            have hg5' : ((W3.setCell ⟨g, k, none⟩ (.slice a1 el.length (ecap - 1))).alloc (.cells #[.slice siA t.2.length siC] 35)).grownBy w5 (some g) := hg5
            have hat : g5 = g ∨ g5 = W3.heap.size + 1 := by
              rcases hat5 with h | h
              · left
                have h' : some g5 = some g := h
                exact Option.some.inj h'
              · right
                have h' : some g5 = some ((W3.setCell ⟨g, k, none⟩ (.slice a1 el.length (ecap - 1))).alloc (.cells #[.slice siA t.2.length siC] 35)).heap.size := h
                rw [Option.some.inj h', World.size_alloc, hs4]
            have hown5' : w5.ownsRow W.heap.size 35 1 (.slice (some ⟨g5, 0, none⟩) (k + 1 + 1) cap5) (k + 1 + 1) (stkV r ++ [.slice a1 el.length (ecap - 1)] ++ [.slice siA t.2.length siC]) := hown5
            clear hown5 hg5 hnil5 hat5
            have hsm : ∀ K : Nat → Prop, ¬ K g → Sm K W3 w5 := fun K hK => ((Sm.setCell K W3 ⟨g, k, none⟩ (.slice a1 el.length (ecap - 1)) hK).trans (Sm.alloc K _ _) (fun _ _ h => h)).trans (Sm.of_grown (K := K) hg5' (fun i _ hi e => hK (by cases e; exact hi))) (fun _ _ h => h)
            have hj5 : J (pre ++ [x]) o' w5 := hJ _ _ _ _ hj3 (hsm _ (fun h => by rcases h with h | h; omega; exact hng3 h))
            have hng5 : ¬ o' g5 := by
              rcases hat with rfl | rfl
              · exact hng3
              · exact fun h => by have := (hJl _ _ _ hj3 _ h).1; omega
            have hB5 : Below m W w5 := hB3.trans ((hsm (fun i => i < m) (by omega)).below (by omega) (fun i hi => hi))
            gi_roundg (2 * rest'.length + (k + 1 + 1))
            case measure => rw [HG.out, hrest', hk]; simp; omega
            case rel =>
              refine ⟨pre ++ [x], rest', o', ⟨ed, t.2, .slice siA t.2.length siC⟩ :: ⟨ed + 1, el, .slice a1 el.length (ecap - 1)⟩ :: r, g5, cap5, ?_, ?_, ?_, ?_, ?_, hj5, hng5, hB5, Nat.le_trans hsz3 ((hsm (fun _ => False) (fun h => h)).size), ?_, ?_⟩
              · rw [HXS.out, hrest']; simp
              · have h := (HS2 a1 ha2).out
                rw [hrest'] at h
                exact (List.cons.inj h).2
              · intro e he
                rcases List.mem_cons.1 he with rfl | he
                · exact hsi
                · rcases List.mem_cons.1 he with rfl | he
                  · exact htail a1 ha2
                  · exact hst' e he
              · rw [List.length_cons, List.length_cons, hk]
              · rw [List.length_cons, List.length_cons, hk]
                have e5 : stkV (⟨ed, t.2, .slice siA t.2.length siC⟩ :: ⟨ed + 1, el, .slice a1 el.length (ecap - 1)⟩ :: r) = stkV r ++ [.slice a1 el.length (ecap - 1)] ++ [.slice siA t.2.length siC] := by simp [stkV]
                rw [e5]
                exact hown5'
              · simp [hk]; omega
              · simp [hk]
          · gi_wp2
            refine bodyPost_ret (results_none rfl _ _ _) rfl ?_
            exact ⟨⟨_, rfl⟩, .inr ⟨pre ++ [x], o', ⟨rest', by rw [HXS.out, hrest']; simp⟩, hjx3⟩⟩
/-- The iterator's contract: all of the states, in the order of the text. -/
theorem states_owns {F : Fence} {n : Nat} (hf : F.fn 56) (hro : F.round = none) (hn : 1 ≤ n) {X m d : Nat} {ls : List (St d)} {sv : Value} {ok : Nat → Prop} {w : World}
    (hX : w.cell? ⟨X, 5, none⟩ = some sv) (hok : ∀ b, ok b → b < m) (hm : m ≤ w.heap.size) (hrd : RdK ok w 11 (rSt d ok w) ls sv) (hlen : (flX w d 0 ls sv).length ≤ 1000000) :
    SeqOwns F n Try.prog 56 #[.pointer (some ⟨X, 0, none⟩)] encS m (flX w d 0 ls sv) w := fun l J Jx o W hW hJl hJ hJx hY h0 => by
  have hXl : X < w.heap.size := World.block_lt_of_cell? w _ hX
  have key : ∀ (d k : Nat) (ls : List (St d)) (sv : Value), RdK ok w 11 (rSt d ok w) ls sv → flX W d k ls sv = flX w d k ls sv := by
    intro d
    induction d with
    | zero => intro _ _ _ _; rfl
    | succ d ih =>
      intro k ls sv h
      have k2 : ∀ (l : List (St (d + 1))) (v : Value) (b off : Nat), RdK ok w 11 (rSt (d + 1) ok w) l v → (l ≠ [] → vB v = b ∧ vO v = off) → flN W d k b (flX W d (k + 1)) l off = flN w d k b (flX w d (k + 1)) l off := by
        intro l
        induction l with
        | nil => intro v b off _ _; rfl
        | cons t r ih2 =>
          intro v b off h hv
          obtain ⟨b', off', cap, rfl, _, _, _, hb, ⟨so, si, e1, h1, h2⟩, hc, ht⟩ := rdK_head h
          obtain ⟨rfl, rfl⟩ := hv (by simp)
          have e2 : rdc W b' off' = rdc w b' off' := by
            unfold rdc
            apply List.map_congr_left
            intro j _
            rw [hW.cell (p := ⟨b', off' + j, none⟩) hb]
          simp only [vB, vO, flN, e2]
          rw [e1]
          rw [show (hdV t.1 so si).getD 10 .nilIface = si from rfl, ih (k + 1) t.2 si h2]
          rw [ih2 (.slice (some ⟨b', off' + 11, none⟩) r.length (cap - 1)) b' (off' + 11) (ht _ (fun _ => rfl)) (fun _ => ⟨rfl, rfl⟩)]
      exact k2 ls sv _ _ h (fun _ => ⟨rfl, rfl⟩)
  have e := key d 0 ls sv hrd
  rw [← e] at hlen hY ⊢
  exact states1_in F n hf hro hn l X m d ls sv _ J Jx ok o W hJl hJ hJx hY ((hW.cell (p := ⟨X, 5, none⟩) hXl).trans hX) hok (Nat.le_trans hm hW.size) (hrd.stay (kp_st d) (fun b hb hl => ⟨hb, hW.block b hl⟩)) rfl hlen h0
end Go.Proofs.Ytbccdkhbplmknaa

/- A region that draws its order within a round of a range over a function: as anywhere, where it defers nothing. -/
namespace Go.Proofs.Ytbccdkhbplmknaa
open Go.RowKit
set_option linter.unusedSimpArgs false
set_option linter.unusedVariables false

theorem wpOpIn_of_plain {n l : Nat} {P : Program} {ops : Array Oper} {Q : Exit → Act → World → Prop} (hlo : ¬ LetsOut Q) (hd : ∀ (i : Nat) (o : Oper), ops[i]? = some o → ∀ c, o.op ≠ .defer c)
    {i : Nat} {K K' : Act → World → Prop} {a : Act} {w : World} (hK : ∀ a w, K a w → K' a w) (h : wpOp P ops Q i K a w) : wpOpIn (Fence.wide.inRound l) n P ops Q i K' a w := by
  unfold wpOp at h
  unfold wpOpIn
  cases ho : ops[i]? with
  | none => simp only [ho] at h ⊢; exact hK _ _ h
  | some o =>
    simp only [ho] at h ⊢
    split
    · rename_i hw
      simp only [hw, if_true] at h
      rcases h with h | h
      · refine ⟨fun _ _ => trivial, ?_⟩
        rw [Oper.semAt_eq _ _ _ (hd i o ho)]
        unfold Oper.wp at h
        generalize (execOp a.eval o).run P w = r at h ⊢
        cases r with
        | ok x w' =>
          cases x with
          | value v => exact hK _ _ h
          | skip => exact hK _ _ h
          | defer d => exact hK _ _ h
          | enter f args =>
            refine ⟨fun e => by simp [Fence.wide, Fence.inRound] at e, CallsIn.inRound l (callsIn_wide.2 (Calls.mono h fun e w'' he => ?_))⟩
            cases e with
            | returned v => exact hK _ _ he
            | panicked c => exact he
            | outgrown => exact he
          | row row args =>
            refine ⟨fun e => by simp [Fence.wide, Fence.inRound] at e, fun c cs _ => ?_⟩
            obtain ⟨v, w2, hv, hs⟩ := h c cs
            exact ⟨v, w2, hK _ _ hv, stepsIn_wide.2 hs⟩
          | _ => exact h.elim
        | halt x w' => cases x <;> first | exact h | exact h.elim
      · exact absurd h.2 hlo
    · rename_i hw
      simp only [hw, Bool.false_eq_true, if_false] at h
      exact ⟨fun _ _ => trivial, hK _ _ h⟩
theorem wpAnyIn_of_plain {n l : Nat} {P : Program} {md : Region.Mode} {ops : Array Oper} {Q : Exit → Act → World → Prop} (hlo : ¬ LetsOut Q) (hd : ∀ (i : Nat) (o : Oper), ops[i]? = some o → ∀ c, o.op ≠ .defer c) :
    ∀ (fuel : Nat) (listed : Array Bool) (a : Act) (w : World), wpAny P md ops Q fuel listed a w → wpAnyIn (Fence.wide.inRound l) n P md ops Q fuel listed a w
  | 0, _, _, _, h => h
  | fuel + 1, _, _, _, h => ⟨h.1, fun i hi => wpOpIn_of_plain hlo hd (fun a' w' h' => wpAnyIn_of_plain hlo hd fuel _ a' w' h') (h.2 i hi)⟩
def noDefer (ops : Array Oper) : Bool := ops.all fun o => match o.op with
  | .defer _ => false
  | _ => true
theorem noDefer_at {ops : Array Oper} (h : noDefer ops = true) (i : Nat) (o : Oper) (hi : ops[i]? = some o) (c : Call) : o.op ≠ .defer c := fun e => by
  have h2 := Array.all_eq_true.1 h i (Array.getElem?_eq_some_iff.1 hi).1
  rw [(Array.getElem?_eq_some_iff.1 hi).2, e] at h2
  cases h2
/-- The beginning of such a region. -/
theorem wpIn_region_round {n l : Nat} {P : Program} {ops : Array Oper} {Q : Exit → Act → World → Prop} {S : World → Prop} {id : Nat} {a : Act} {w : World} (hm : P.follows .mixedOrders = true) (hd : noDefer ops = true) (hlo : ¬ LetsOut Q) (hS : S w.drew)
    (h : S w.drew → wpAnyH P .any ops Q S ops.size (Array.replicate ops.size false) a w.drew) : (Code.region id ops true).wpIn (Fence.wide.inRound l) n P Q a w :=
  wpIn_region_any hm (wpAnyIn_of_plain hlo (noDefer_at hd) _ _ _ _ (wpAny_of_held _ _ _ _ (h hS)))
end Go.Proofs.Ytbccdkhbplmknaa

/- What the program's nested and placed answer. -/
namespace Go.Proofs.Ytbccdkhbplmknaa
open Go.RowKit Go.Lib
set_option linter.unusedSimpArgs false
set_option linter.unusedVariables false
attribute [local go_sem ↓] Go.wp_at_zero Go.wp_at_succ

theorem nst_succ {D : Nat → Int} {j : Nat} {m : Int} (h : nst D j) (hm : (j = 0 ∧ m = 0) ∨ (0 < j ∧ m = D (j - 1) + 1)) : nst D (j + 1) ↔ (0 ≤ D j ∧ D j ≤ m) := by
  constructor
  · intro h2
    have := h2 j (by omega)
    rcases hm with ⟨rfl, rfl⟩ | ⟨h0, rfl⟩
    · exact ⟨this.1, this.2.1 rfl⟩
    · exact ⟨this.1, this.2.2 h0⟩
  · rintro ⟨h1, h2⟩ i hi
    rcases Nat.lt_or_ge i j with h3 | h3
    · exact h i h3
    · have : i = j := by omega
      subst this
      rcases hm with ⟨rfl, rfl⟩ | ⟨h0, rfl⟩
      · exact ⟨h1, fun _ => h2, fun h => by omega⟩
      · exact ⟨h1, fun h => by omega, fun _ => h2⟩
theorem nst_le {D : Nat → Int} {j n : Nat} (h : nst D n) (hj : j ≤ n) : nst D j := fun i hi => h i (by omega)
set_option maxRecDepth 100000 in
set_option maxHeartbeats 4000000 in
theorem nested_any {ok : Nat → Prop} {w : World} {l : List Nd} {v : Value} (h : RdNd ok w l v) (h40 : l.length ≤ 40) :
    Calls Try.prog 34 #[v] w fun e w' => e = .returned (.bool (nsB l)) ∧ Below w.heap.size w w' := by
  obtain ⟨a, cap, rfl, hlc, hcm⟩ := h.form
  unfold maxLen at hcm
  obtain ⟨V, hV⟩ : ∃ V, nsB l = V := ⟨_, rfl⟩
  rw [hV]
  have HV : Hid (nsB l = V) := hV
  have HC := hidOf h
  obtain ⟨n, hn⟩ : ∃ n, l.length = n := ⟨_, rfl⟩
  rw [hn] at hlc h40 ⊢
  have HN : Hid (l.length = n) := hn
  clear h hV hn
  go_enter Try.func34, Try.ntmps34
  go_wp2
  go_loopw [3, 8] (fun mo ix wr => ∃ (j : Nat) (m : Int), j ≤ n ∧ ix = .int .i64 (j : Int) ∧ mo = .int .i64 m ∧ 0 ≤ m ∧ m ≤ j ∧ Hid (nst (nD l) j ∧ ((j = 0 ∧ m = 0) ∨ (0 < j ∧ m = nD l (j - 1) + 1))) ∧ Below w.heap.size w wr) (fun _ ix _ => n - (RowKit.intOf ix).toNat)
  case atStart => exact ⟨0, 0, Nat.zero_le _, rfl, rfl, by omega, by omega, ⟨fun i hi => by omega, .inl ⟨rfl, rfl⟩⟩, Below.refl _ _⟩
  case round =>
    obtain ⟨j, m, hj, rfl, rfl, hm0, hmj, HI, hb⟩ := hrel
    by_cases hlt : j < n
    · obtain ⟨b, off, rfl, hbl, c0, c1, c2, c3, c4, c5, c6⟩ := nd_at HC.out j (by rw [HN.out]; exact hlt)
      replace c0 := (hb.cell (p := ⟨b, off + j * 7, none⟩) hbl).trans c0
      replace c1 := (hb.cell (p := ⟨b, off + j * 7 + 1, none⟩) hbl).trans c1
      replace c2 := (hb.cell (p := ⟨b, off + j * 7 + 2, none⟩) hbl).trans c2
      replace c3 := (hb.cell (p := ⟨b, off + j * 7 + 3, none⟩) hbl).trans c3
      replace c4 := (hb.cell (p := ⟨b, off + j * 7 + 4, none⟩) hbl).trans c4
      replace c5 := (hb.cell (p := ⟨b, off + j * 7 + 5, none⟩) hbl).trans c5
      replace c6 := (hb.cell (p := ⟨b, off + j * 7 + 6, none⟩) hbl).trans c6
      obtain ⟨d, hd⟩ : ∃ d, nD l j = d := ⟨_, rfl⟩
      rw [hd] at c2
      have HS : Hid (nst (nD l) (j + 1) ↔ (0 ≤ d ∧ d ≤ m)) := by rw [← hd]; exact nst_succ HI.out.1 HI.out.2
      have HD : Hid (nD l j = d) := hd
      generalize (nAt l j).1 = x0 at c0
      generalize nP l j = x1 at c1
      generalize nB l j = x3 at c3
      generalize (nAt l j).2.2.1 = x4 at c4
      generalize (nAt l j).2.2.2.1 = x5 at c5
      generalize nL l j = x6 at c6
      clear hd
      have i1 : (j : Int) < (n : Int) := by omega
      have i2 : (0 : Int) ≤ (j : Int) := by omega
      have hb1 := hb.alloc hb.size (.cells #[.string x0, .int .i64 x1, .int .i64 d, .int .i64 x3, .bool x4, .bool x5, .bool x6] 72)
      have hF : (d < 0 ∨ m < d) → V = false := fun h => by
        rw [← HV.out]
        unfold nsB
        rw [decide_eq_false]
        intro h2
        have := HS.out.1 (nst_le h2 (by rw [HN.out]; omega))
        omega
      by_cases hd0 : d < 0
      · have hF := hF (.inl hd0)
        subst hF
        go_wp2
        go_ret
        exact ⟨rfl, hb1⟩
      by_cases hdm : m < d
      · have hF := hF (.inr hdm)
        subst hF
        go_wp2
        go_ret
        exact ⟨rfl, hb1⟩
      clear hF
      have hd1 : 0 ≤ d := by omega
      have hd2 : d ≤ m := by omega
      go_wp2
      go_roundw
      case rel => exact ⟨j + 1, d + 1, hlt, by go_num, rfl, by omega, by omega, ⟨HS.out.2 ⟨hd1, hd2⟩, .inr ⟨by omega, by rw [Nat.add_sub_cancel, HD.out]⟩⟩, hb1⟩
      case measure => simp [RowKit.intOf]; omega
    · have i1 : ¬ (j : Int) < (n : Int) := by omega
      have hT : V = true := by
        rw [← HV.out]
        unfold nsB
        rw [decide_eq_true]
        rw [HN.out]
        have : j = n := by omega
        rw [← this]
        exact HI.out.1
      subst hT
      go_wp2
      go_ret
      exact ⟨rfl, hb⟩
end Go.Proofs.Ytbccdkhbplmknaa

/- Rows of the call's own that lie apart from others; an element put in the place of a zero one. -/
namespace Go.Proofs.Ytbccdkhbplmknaa
open Go.RowKit Go.Lib
set_option linter.unusedSimpArgs false
set_option linter.unusedVariables false

/-- As OwnK; nothing of it lies in a block that is bad. -/
def OwnB {α : Type} (w : World) (base : Nat) (bad : Nat → Prop) (e k : Nat) (R : (Nat → Prop) → World → α → List Value → Prop) (v : Value) (l : List α) : Prop :=
  ∃ qs : List (List Value), w.ownsRow base e k v l.length qs.flatten ∧ qs.length = l.length ∧ (∀ (i : Nat) (h : i < l.length) (h' : i < qs.length), (qs[i]).length = k ∧ R (fun b => base ≤ b ∧ v.ownBlock ≠ some b ∧ ¬ bad b) w l[i] qs[i]) ∧ ∀ g, v.ownBlock = some g → ¬ bad g
theorem ownB_nil {α : Type} (w : World) (base : Nat) (bad : Nat → Prop) (e k : Nat) (R : (Nat → Prop) → World → α → List Value → Prop) : OwnB w base bad e k R (.slice none 0 0) [] := ⟨[], World.ownsRow_nil w base e k, rfl, fun i h => absurd h (by simp), fun g hg => by simp [Value.ownBlock] at hg⟩
theorem OwnB.keep {α : Type} {w w' : World} {base e k : Nat} {bad bad' : Nat → Prop} {R : (Nat → Prop) → World → α → List Value → Prop} {v : Value} {l : List α} (hR : Kp R) (h : OwnB w base bad e k R v l) (hk : ∀ b, base ≤ b → ¬ bad b → b < w.heap.size → w'.heap[b]? = w.heap[b]? ∧ ¬ bad' b) : OwnB w' base bad' e k R v l := by
  obtain ⟨qs, ho, hl, hr, hg0⟩ := h
  refine ⟨qs, ownsRow_keep ho (fun g hg => ?_), hl, fun i h h' => ⟨(hr i h h').1, hR (hr i h h').2 (fun b hb hlt => ⟨⟨hb.1, hb.2.1, (hk b hb.1 hb.2.2 hlt).2⟩, (hk b hb.1 hb.2.2 hlt).1⟩)⟩, fun g hg => ?_⟩
  · obtain ⟨a, b⟩ := ownsRow_lt ho g hg
    exact (hk g a (hg0 g hg) b).1
  · obtain ⟨a, b⟩ := ownsRow_lt ho g hg
    exact (hk g a (hg0 g hg) b).2
theorem OwnB.on {α : Type} {w w' : World} {base e k : Nat} {bad : Nat → Prop} {R : (Nat → Prop) → World → α → List Value → Prop} {v : Value} {l : List α} (hR : Kp R) (h : OwnB w base bad e k R v l) (hb : Below w.heap.size w w') : OwnB w' base bad e k R v l := h.keep hR (fun b _ hbad hlt => ⟨hb.block b hlt, hbad⟩)
theorem OwnB.fx {α : Type} {w w' : World} {base e k X : Nat} {bad : Nat → Prop} {R : (Nat → Prop) → World → α → List Value → Prop} {v : Value} {l : List α} (hR : Kp R) (h : OwnB w base bad e k R v l) (hf : Fx X w w') (hX : X < base) : OwnB w' base bad e k R v l :=
  h.keep hR (fun b hb hbad hlt => ⟨hf.block b hlt (fun e => by have : b = X := Option.some.inj e; omega), hbad⟩)
theorem OwnB.set {α : Type} {w : World} {base e k : Nat} {bad : Nat → Prop} {R : (Nat → Prop) → World → α → List Value → Prop} {v : Value} {l : List α} (hR : Kp R) (h : OwnB w base bad e k R v l) {X i : Nat} (hX : X < base) (u : Value) : OwnB (w.setCell ⟨X, i, none⟩ u) base bad e k R v l :=
  h.keep hR (fun b hb hbad _ => ⟨Below.heap_setCell _ _ _ _ (fun e => by have : b = X := e; omega), hbad⟩)
theorem OwnB.form {α : Type} {w : World} {base e k : Nat} {bad : Nat → Prop} {R : (Nat → Prop) → World → α → List Value → Prop} {v : Value} {l : List α} (h : OwnB w base bad e k R v l) : ∃ a cap, v = .slice a l.length cap ∧ l.length ≤ cap ∧ cap ≤ maxLen := by
  obtain ⟨qs, ho, _⟩ := h
  rcases ho.2 with ⟨h1, h2⟩ | ⟨g, cap, cur, h1, _, _, h3, h4, _⟩
  · exact ⟨none, 0, by rw [h1, h2], by omega, by simp [maxLen]⟩
  · exact ⟨_, _, h1, h3, h4⟩
theorem OwnB.lt {α : Type} {w : World} {base e k : Nat} {bad : Nat → Prop} {R : (Nat → Prop) → World → α → List Value → Prop} {v : Value} {l : List α} (h : OwnB w base bad e k R v l) : ∀ g, v.ownBlock = some g → base ≤ g ∧ g < w.heap.size := by
  obtain ⟨qs, ho, _⟩ := h
  exact ownsRow_lt ho
/-- The other row has grown. -/
theorem OwnB.other {α : Type} {w w' : World} {base e k : Nat} {u u' : Value} {R : (Nat → Prop) → World → α → List Value → Prop} {v : Value} {l : List α} (hR : Kp R) (h : OwnB w base (fun b => u.ownBlock = some b) e k R v l) (hg : w.grownBy w' u.ownBlock) (hat : u'.ownBlock = u.ownBlock ∨ u'.ownBlock = some w.heap.size) : OwnB w' base (fun b => u'.ownBlock = some b) e k R v l :=
  h.keep hR (fun b hb hbad hlt => ⟨hg.block b hlt (fun e => hbad e.symm), fun q => by
    rcases hat with h | h
    · exact hbad (h ▸ q)
    · rw [h] at q; have : w.heap.size = b := Option.some.inj q; omega⟩)
theorem OwnB.snoc {α : Type} {w w' : World} {base e k lo n : Nat} {bad : Nat → Prop} {R : (Nat → Prop) → World → α → List Value → Prop} {v v' : Value} {l : List α} {p : α} {cs : List Value} {qs : List (List Value)} (hR : Kp R) (hk : cs.length = k)
    (hn : l.length = n) (ho : w.ownsRow base e k v n qs.flatten) (hl : qs.length = l.length) (hr : ∀ (i : Nat) (h : i < l.length) (h' : i < qs.length), (qs[i]).length = k ∧ R (fun b => base ≤ b ∧ v.ownBlock ≠ some b ∧ ¬ bad b) w l[i] qs[i])
    (ho' : w'.ownsRow base e k v' (n + 1) (qs.flatten ++ cs)) (hg : w.grownBy w' v.ownBlock) (hat : v'.ownBlock = v.ownBlock ∨ v'.ownBlock = some w.heap.size)
    (hp : R (fun b => lo ≤ b) w p cs) (hlo : base ≤ lo) (hv : ∀ x, v.ownBlock = some x → x < lo) (hbad : ∀ b, bad b → b < lo ∧ b < w.heap.size) (hvb : ∀ g, v.ownBlock = some g → ¬ bad g) : OwnB w' base bad e k R v' (l ++ [p]) := by
  subst hn
  have key : ∀ b, base ≤ b ∧ v.ownBlock ≠ some b ∧ ¬ bad b → b < w.heap.size → (base ≤ b ∧ v'.ownBlock ≠ some b ∧ ¬ bad b) ∧ w'.heap[b]? = w.heap[b]? := fun b hb hlt => by
    refine ⟨⟨hb.1, fun e => ?_, hb.2.2⟩, hg.block b hlt (fun e => hb.2.1 e.symm)⟩
    rcases hat with h | h
    · exact hb.2.1 (h ▸ e)
    · rw [h] at e; have : w.heap.size = b := Option.some.inj e; omega
  refine ⟨qs ++ [cs], ?_, by simp [hl], fun i h h' => ?_, fun g hg' => ?_⟩
  · rw [List.flatten_append, List.length_append]
    simpa using ho'
  · rcases Nat.lt_or_ge i l.length with hi | hi
    · rw [List.getElem_append_left hi, List.getElem_append_left (by omega)]
      exact ⟨(hr i hi (by omega)).1, hR (hr i hi (by omega)).2 key⟩
    · have : i = l.length := by simp at h; omega
      subst this
      have e1 : (l ++ [p])[l.length] = p := by simp
      have e2 : (qs ++ [cs])[l.length]'h' = cs := by simp [← hl]
      rw [e1, e2]
      exact ⟨hk, hR hp (fun b hb hlt => key b ⟨by omega, fun e => by have := hv b e; omega, fun q => by have := (hbad b q).1; omega⟩ hlt)⟩
  · rcases hat with h | h
    · exact hvb g (h ▸ hg')
    · rw [h] at hg'
      have : w.heap.size = g := Option.some.inj hg'
      intro q
      have := (hbad g q).2
      omega
theorem OwnB.rd {α : Type} {w : World} {base e k : Nat} {bad : Nat → Prop} {R : (Nat → Prop) → World → α → List Value → Prop} {v : Value} {l : List α} (hR : Kp R) (h : OwnB w base bad e k R v l) : RdK (fun b => base ≤ b) w k (R (fun b => base ≤ b) w) l v := by
  obtain ⟨qs, ho, hl, hr, _⟩ := h
  exact OwnK.rd hR ⟨qs, ho, hl, fun i h h' => ⟨(hr i h h').1, hR (hr i h h').2 (fun b hb _ => ⟨⟨hb.1, hb.2.1⟩, rfl⟩)⟩⟩
theorem step_pushB {α : Type} {P : Program} (w : World) {ops : Array Oper} {o : Oper} {a : Act} {K : Act → World → Prop} {Q : Exit → Act → World → Prop} {E : Prop} (hgd : o.guard = none) (s x : Operand) (t : TypeId)
    (ho : o.op = .call { callee := .builtin .append, args := #[s, x], argTypes := #[t, t] })
    (base : Nat) (bad : Nat → Prop) (e : TypeId) (i : TypeInfo) (z : Value) (k bytes : Nat) (ht : P.underlying t = some (.slice e)) (hi : P.info? e = some i) (hz : i.zero = some z)
    (hsize : i.size = k) (hby : i.bytes = bytes) (hzs : z.cells.size = k) {R : (Nat → Prop) → World → α → List Value → Prop} (hR : Kp R)
    (v : Value) (l : List α) (p : α) (cs : List Value) (lo : Nat) (hs : a.eval s = v) (hx : a.eval x = .slice (some ⟨w.heap.size, 0, none⟩) 1 1) (hk : cs.length = k) (h1 : ∀ u ∈ cs, u.oneCell' = true)
    (hown : OwnB w base bad e k R v l) (hp : R (fun b => lo ≤ b) w p cs) (hlo : base ≤ lo) (hv : ∀ x, v.ownBlock = some x → x < lo) (hbad : ∀ b, bad b → b < lo ∧ b < w.heap.size) (hroom : (l.length + 1 + (l.length + 1) / 4 + 192) * bytes ≤ 281474976710656)
    (h63 : l.length + 1 ≤ maxLen) (hbase : base ≤ w.heap.size)
    (h : ∀ v' w', OwnB w' base bad e k R v' (l ++ [p]) → (w.alloc (.cells cs.toArray e)).grownBy w' v.ownBlock → Below base w w' → (v'.ownBlock = v.ownBlock ∨ v'.ownBlock = some (w.alloc (.cells cs.toArray e)).heap.size) → K (a.put o.dst v') w') :
    if Region.wanted o (yielded ops a.tmps) = true then Oper.wp P o a (w.alloc (.cells cs.toArray e)) K Q else E := by
  have hal : Below w.heap.size w (w.alloc (.cells cs.toArray e)) := (Below.refl _ _).alloc (Nat.le_refl _) _
  obtain ⟨qs, ho1, hl1, hr1, hg1⟩ := hown.on hR hal
  refine step_append_at _ hgd s x t t ho base e i z k bytes ht hi hz hsize hby hzs v l.length qs.flatten hs ho1 _ 1 cs hx (src_row ht w cs hk h1) 1 (.inr hroom) (Nat.le_refl _) h63 (Nat.le_trans hbase hal.size) ?_
  intro v' w' hown' hg hat
  refine h v' w' (OwnB.snoc hR hk rfl ho1 hl1 hr1 hown' hg hat (hR hp (fun b hb hlt => ⟨hb, hal.block b hlt⟩)) hlo hv (fun b q => ⟨(hbad b q).1, Nat.lt_of_lt_of_le (hbad b q).2 hal.size⟩) hg1) hg ?_ hat
  exact ((Below.refl base w).alloc hbase _).grown hg (Nat.le_trans hbase hal.size) (fun k hk => (World.ownsRow.lt ho1 k hk).1)
/-- Cells written one behind the other. -/
def putL (w : World) (g : Nat) : Nat → List Value → World
  | _, [] => w
  | o, c :: cs => putL (w.setCell ⟨g, o, none⟩ c) g (o + 1) cs
theorem putL_own : ∀ (cs zs xs ys : List Value) (w : World) (base e k : Nat) (g n cap o : Nat), zs.length = cs.length → xs.length = o → w.ownsRow base e k (.slice (some ⟨g, 0, none⟩) n cap) n (xs ++ zs ++ ys) → (putL w g o cs).ownsRow base e k (.slice (some ⟨g, 0, none⟩) n cap) n (xs ++ cs ++ ys)
  | [], zs, xs, ys, w, base, e, k, g, n, cap, o, hz, hx, h => by
    have : zs = [] := List.eq_nil_of_length_eq_zero (by simpa using hz)
    subst this
    exact h
  | c :: cs, [], xs, ys, w, base, e, k, g, n, cap, o, hz, hx, h => by simp at hz
  | c :: cs, z :: zs, xs, ys, w, base, e, k, g, n, cap, o, hz, hx, h => by
    have h1 := (World.ownsRow.stored h o c).1
    have e1 : (xs ++ z :: zs ++ ys).set o c = (xs ++ [c]) ++ zs ++ ys := by
      subst hx
      simp
    rw [e1] at h1
    have h2 := putL_own cs zs (xs ++ [c]) ys _ base e k g n cap (o + 1) (by simpa using hz) (by simp [hx]) h1
    have e2 : xs ++ [c] ++ cs ++ ys = xs ++ (c :: cs) ++ ys := by simp
    rw [e2] at h2
    exact h2
theorem putL_heap : ∀ (cs : List Value) (w : World) (g o k : Nat), k ≠ g → (putL w g o cs).heap[k]? = w.heap[k]?
  | [], w, g, o, k, h => rfl
  | c :: cs, w, g, o, k, h => by
    unfold putL
    rw [putL_heap cs _ g (o + 1) k h]
    exact Below.heap_setCell _ _ _ _ (fun e => h e)
theorem putL_below {B : Nat} {u : World} : ∀ (cs : List Value) (w : World) (g o : Nat), Below B u w → B ≤ g → Below B u (putL w g o cs)
  | [], w, g, o, h, hg => h
  | c :: cs, w, g, o, h, hg => putL_below cs _ g (o + 1) (h.setCell hg c) hg

/-- The row v', of l and a zero element. -/
def ZR {α : Type} (w : World) (base : Nat) (bad : Nat → Prop) (e k : Nat) (R : (Nat → Prop) → World → α → List Value → Prop) (zs : List Value) (g cap : Nat) (l : List α) : Prop :=
  base ≤ g ∧ g < w.heap.size ∧ ¬ bad g ∧ ∃ qs : List (List Value), w.ownsRow base e k (.slice (some ⟨g, 0, none⟩) (l.length + 1) cap) (l.length + 1) (qs.flatten ++ zs) ∧ qs.length = l.length ∧ ∀ (i : Nat) (h : i < l.length) (h' : i < qs.length), (qs[i]).length = k ∧ R (fun b => base ≤ b ∧ g ≠ b ∧ ¬ bad b) w l[i] qs[i]
theorem ZR.keep {α : Type} {w w' : World} {base e k g cap : Nat} {bad : Nat → Prop} {R : (Nat → Prop) → World → α → List Value → Prop} {zs : List Value} {l : List α} (hR : Kp R) (h : ZR w base bad e k R zs g cap l) (hs : w.heap.size ≤ w'.heap.size) (hk : ∀ b, base ≤ b → ¬ bad b → b < w.heap.size → w'.heap[b]? = w.heap[b]?) : ZR w' base bad e k R zs g cap l := by
  obtain ⟨h1, h2, h3, qs, ho, hl, hr⟩ := h
  refine ⟨h1, by omega, h3, qs, ownsRow_keep ho (fun g' hg => ?_), hl, fun i h h' => ⟨(hr i h h').1, hR (hr i h h').2 (fun b hb hlt => ⟨hb, hk b hb.1 hb.2.2 hlt⟩)⟩⟩
  simp only [Value.ownBlock, Option.some.injEq] at hg
  subst hg
  exact hk g h1 h3 h2
theorem ZR.on {α : Type} {w w' : World} {base e k g cap : Nat} {bad : Nat → Prop} {R : (Nat → Prop) → World → α → List Value → Prop} {zs : List Value} {l : List α} (hR : Kp R) (h : ZR w base bad e k R zs g cap l) (hb : Below w.heap.size w w') : ZR w' base bad e k R zs g cap l := h.keep hR hb.size (fun b _ _ hlt => hb.block b hlt)
theorem ZR.fx {α : Type} {w w' : World} {base e k g cap X : Nat} {bad : Nat → Prop} {R : (Nat → Prop) → World → α → List Value → Prop} {zs : List Value} {l : List α} (hR : Kp R) (h : ZR w base bad e k R zs g cap l) (hf : Fx X w w') (hX : X < base) : ZR w' base bad e k R zs g cap l :=
  h.keep hR hf.size (fun b hb _ hlt => hf.block b hlt (fun e => by have : b = X := Option.some.inj e; omega))
theorem flat_len {k : Nat} : ∀ (qs : List (List Value)), (∀ (i : Nat) (h : i < qs.length), (qs[i]).length = k) → qs.flatten.length = qs.length * k
  | [], _ => by simp
  | x :: t, h => by
    have hx : x.length = k := h 0 (by simp)
    rw [List.flatten_cons, List.length_append, flat_len t (fun i hi => h (i + 1) (by simpa using hi)), List.length_cons, Nat.succ_mul]
    omega
theorem ZR.cells {α : Type} {w : World} {base e k g cap : Nat} {bad : Nat → Prop} {R : (Nat → Prop) → World → α → List Value → Prop} {zs : List Value} {l : List α} (h : ZR w base bad e k R zs g cap l) : ∀ j z, zs[j]? = some z → w.cell? ⟨g, l.length * k + j, none⟩ = some z ∧ w.frozen? ⟨g, l.length * k + j, none⟩ = false := by
  obtain ⟨h1, h2, h3, qs, ho, hl, hr⟩ := h
  intro j z hz
  have hfl : qs.flatten.length = l.length * k := by rw [flat_len qs (fun i hi => (hr i (by omega) hi).1), hl]
  have hc := World.ownsRow.cells ho (g := g) rfl (l.length * k + j) z (by rw [List.getElem?_append_right (by omega), hfl, Nat.add_sub_cancel_left]; exact hz)
  rw [add_plain, Nat.zero_add] at hc
  exact ⟨hc, World.ownsRow.frozenAt ho _⟩
/-- The zero element is there. -/
theorem ZR.of {α : Type} {w w' : World} {base e k : Nat} {bad : Nat → Prop} {R : (Nat → Prop) → World → α → List Value → Prop} {v v' : Value} {zs : List Value} {l : List α} {qs : List (List Value)} (hR : Kp R)
    (ho : w.ownsRow base e k v l.length qs.flatten) (hl : qs.length = l.length) (hr : ∀ (i : Nat) (h : i < l.length) (h' : i < qs.length), (qs[i]).length = k ∧ R (fun b => base ≤ b ∧ v.ownBlock ≠ some b ∧ ¬ bad b) w l[i] qs[i]) (hgb : ∀ g, v.ownBlock = some g → ¬ bad g)
    (ho' : w'.ownsRow base e k v' (l.length + 1) (qs.flatten ++ zs)) (hg : w.grownBy w' v.ownBlock) (hat : v'.ownBlock = v.ownBlock ∨ v'.ownBlock = some w.heap.size) (hbad : ∀ b, bad b → b < w.heap.size) : ∃ g cap, v' = .slice (some ⟨g, 0, none⟩) (l.length + 1) cap ∧ l.length + 1 ≤ cap ∧ cap ≤ maxLen ∧ (v.ownBlock = some g ∨ g = w.heap.size) ∧ ZR w' base bad e k R zs g cap l := by
  rcases ho'.2 with ⟨_, h2⟩ | ⟨g, cap, cur, rfl, hb, hgg, hnc, hcm, _⟩
  · omega
  · have hgl : g < w'.heap.size := (Array.getElem?_eq_some_iff.1 hgg).1
    have hat' : v.ownBlock = some g ∨ g = w.heap.size := by
      simp only [Value.ownBlock] at hat
      rcases hat with h | h
      · exact .inl h.symm
      · exact .inr (Option.some.inj h)
    have hng : ¬ bad g := by
      rcases hat' with h | h
      · exact hgb g h
      · intro q; have := hbad g q; omega
    refine ⟨g, cap, rfl, hnc, hcm, hat', hb, hgl, hng, qs, ho', hl, fun i h h' => ⟨(hr i h h').1, hR (hr i h h').2 (fun b hb hlt => ⟨⟨hb.1, fun e => ?_, hb.2.2⟩, hg.block b hlt (fun e => hb.2.1 e.symm)⟩)⟩⟩
    subst e
    rcases hat' with h | h
    · exact hb.2.1 h
    · omega
/-- The element put in. -/
theorem ZR.put {α : Type} {w : World} {base e k g cap : Nat} {bad : Nat → Prop} {R : (Nat → Prop) → World → α → List Value → Prop} {zs : List Value} {l : List α} {p : α} {cs : List Value} (hR : Kp R) (h : ZR w base bad e k R zs g cap l) (hk : cs.length = k) (hz : zs.length = k) (hp : R (fun b => base ≤ b ∧ g ≠ b ∧ ¬ bad b) w p cs) : OwnB (putL w g (l.length * k) cs) base bad e k R (.slice (some ⟨g, 0, none⟩) (l.length + 1) cap) (l ++ [p]) := by
  obtain ⟨h1, h2, h3, qs, ho, hl, hr⟩ := h
  have hfl : qs.flatten.length = l.length * k := by rw [flat_len qs (fun i hi => (hr i (by omega) hi).1), hl]
  have ho2 := putL_own cs zs qs.flatten [] w base e k g (l.length + 1) cap (l.length * k) (by omega) hfl (by simpa using ho)
  rw [List.append_nil] at ho2
  have key : ∀ b, base ≤ b ∧ g ≠ b ∧ ¬ bad b → b < w.heap.size → (base ≤ b ∧ (Value.slice (some ⟨g, 0, none⟩) (l.length + 1) cap).ownBlock ≠ some b ∧ ¬ bad b) ∧ (putL w g (l.length * k) cs).heap[b]? = w.heap[b]? := fun b hb hlt =>
    ⟨⟨hb.1, fun e => hb.2.1 (Option.some.inj e), hb.2.2⟩, putL_heap cs w g _ b (fun e => hb.2.1 e.symm)⟩
  refine ⟨qs ++ [cs], ?_, by simp [hl], fun i h h' => ?_, fun g' hg' => ?_⟩
  · rw [List.flatten_append, List.length_append]
    simpa using ho2
  · rcases Nat.lt_or_ge i l.length with hi | hi
    · rw [List.getElem_append_left hi, List.getElem_append_left (by omega)]
      exact ⟨(hr i hi (by omega)).1, hR (hr i hi (by omega)).2 key⟩
    · have : i = l.length := by simp at h; omega
      subst this
      have e1 : (l ++ [p])[l.length] = p := by simp
      have e2 : (qs ++ [cs])[l.length]'h' = cs := by simp [← hl]
      rw [e1, e2]
      exact ⟨hk, hR hp key⟩
  · simp only [Value.ownBlock, Option.some.injEq] at hg'
    subst hg'
    exact h3
end Go.Proofs.Ytbccdkhbplmknaa
