import Derived.Test.YtibmbbiipffooaaXfc03
import Derived.Test.YtibmbbiipffooaaXfc07
import Derived.Test.YtibmbbiipffooaaXfc01
import Derived.Deep.RegionHeldLaw
import Derived.ProofKit
import Derived.OpenShut
import Derived.ShutString
import Derived.ChangeOld
import Derived.SizedLaws
import Derived.Below
import Derived.WalkKit
import Derived.Test.YtibmbbiipffooaaXfc02
import Derived.Deep.DeepCutAuto
import Derived.Test.YtibmbbiipffooaaRows
import Derived.Deep.Slices
import Derived.Test.YtibmbbiipffooaaXfc04

/- The program's disk: operations on a nil one; the laws' waking. -/
namespace Go.Proofs.Ytibmbbiipffooaa
open Go.RowKit Go.Lib Go.Maps
set_option linter.unusedSimpArgs false
set_option linter.unusedVariables false
attribute [local go_sem ↓] Go.wp_at_zero Go.wp_at_succ

theorem dk_conv (w : World) (C : Array Value) (n c : Nat) :
    (convert 30 30 (.slice (some ⟨w.heap.size, 0, none⟩) n c)).run Try.prog (w.alloc (.cells C 5)) = .ok (.slice (some ⟨w.heap.size, 0, none⟩) n c) (w.alloc (.cells C 5 (C.size, C.size + 1))) :=
  Lib.run_convert_bytes_const (P := Try.prog) w 30 5 C n c Try.underlying30 Try.underlying5
set_option maxRecDepth 100000 in
set_option maxHeartbeats 2000000 in
theorem dawake_any (w : World) : Calls Try.prog 5 #[] w fun e w' => e = .returned (.bool true) ∧ Below w.heap.size w w' := by
  have hnew := fun W => dnew_any W 100
  have hT : ∀ W : World, Rd (W.alloc (.cells #[.int .u8 97, .int .u8 98] 5 (2, 3))) (.slice (some ⟨W.heap.size, 0, none⟩) 2 2) [97, 98] := fun W => by
    refine ⟨_, _, rfl, by simp, by simp [maxLen], ⟨fun h => by simp at h, fun x hx i hi => ?_⟩⟩
    obtain rfl := Option.some.inj hx
    match i, hi with
    | 0, _ => exact (cell_of_row _ _ 0 _ _ (2, 3) (heap_alloc_new W _)).trans rfl
    | 1, _ => exact (cell_of_row _ _ 1 _ _ (2, 3) (heap_alloc_new W _)).trans rfl
  go_enter Try.func5, Try.ntmps5
  go_upto_region 2 with (first
    | (go_at_call 7; refine (hnew _).mono ?_; rintro e w1 ⟨rfl, p1, b1⟩; clear hnew)
    | fail)
  have p2 := p1.on ((Below.refl w1.heap.size w1).alloc (Nat.le_refl _) (.cells #[.int .u8 97, .int .u8 98] 5 (2, 3)))
  have hR2 := hT w1
  have hsz : w.heap.size < w1.heap.size := p1.lt
  have hbw : Below w.heap.size w (w1.alloc (.cells #[.int .u8 97, .int .u8 98] 5 (2, 3))) := b1.alloc (by omega) _
  have hs1 : (w1.alloc (.cells #[.int .u8 97, .int .u8 98] 5 (2, 3))).heap.size = w1.heap.size + 1 := by simp
  have hkv := dk_conv w1 #[.int .u8 97, .int .u8 98] 2 2
  simp only [List.size_toArray, List.length_cons, List.length_nil, Nat.reduceAdd] at hkv
  have hap := dapp_any (n := 1) (v := .slice (some ⟨w1.heap.size, 0, none⟩) 2 2) (bs := [97, 98]) p2 (by decide) (by decide) (by decide) (by decide) (by decide) (by decide) (fun w' k => by
    obtain ⟨a, c, e1, e2, e3, e4, e5⟩ := hR2
    exact ⟨a, c, e1, e2, e3, e4, fun x hx i hi => (World.cell?_of_block (k.block _ (World.block_lt_of_cell? _ _ (e5 x hx i hi)) (fun e => by
      simp only [Value.slice.injEq] at e1
      obtain ⟨e1, _⟩ := e1
      rw [← e1] at hx
      obtain rfl := Option.some.inj hx
      have : (Addr.add ⟨w1.heap.size, 0, none⟩ i).block = w1.heap.size := by unfold Addr.add; split <;> rfl
      omega))).trans (e5 x hx i hi)⟩)
  have hr : appD ⟨[], max 100 0, -1, false⟩ 1 [97, 98] = (⟨[(1, [97, 98], 0)], 100, -1, false⟩, 0) := rfl
  rw [hr] at hap
  have hus := fun W F (h : PD W w.heap.size F ⟨[(1, [97, 98], 0)], 100, -1, false⟩) => dused_any h
  have hu2 : usM [((1 : Int), ([97, 98] : List Int), (0 : Nat))] = 2 := rfl
  simp only [hu2] at hus
  have HR := hideD hR2
  have HP := hideD p2
  clear hT p1 p2 hR2 b1 hr
  go_wp2_with (first
    | (go_at_call 16; refine hap.mono ?_; rintro e w3 ⟨rfl, p3, k3⟩; clear hap; have hu3 := hus _ _ p3; clear hus)
    | (go_at_call 17; refine hu3.mono ?_; rintro e w4 ⟨rfl, rfl⟩; clear hu3)
    | fail)
  go_ret
  exact ⟨rfl, hbw.trans (k3.below (fun j hj => by have : j = w.heap.size := hj; omega) (by omega))⟩

theorem t2_new {w w1 w2 : World} {d : Dk} (h1 : PD w1 w.heap.size (fun j => j = w.heap.size) d) (b1 : Below w.heap.size w w1) (h2 : QD w2 w1.heap.size (fun j => j = w1.heap.size) d) (b2 : Below w1.heap.size w1 w2) : T2 w2 (fun j => w.heap.size ≤ j) w.heap.size w1.heap.size d d := by
  have l1 := h1.lt
  have l2 := h2.lt
  have s2 := b2.size
  refine ⟨_, _, h1.on b2, h2, fun j hj => ?_, fun j hj => ?_⟩
  · have hj : j = w.heap.size := hj
    subst hj
    exact ⟨Nat.le_refl _, by omega, fun e => by have e : w.heap.size = w1.heap.size := e; omega⟩
  · have hj : j = w1.heap.size := hj
    subst hj
    exact ⟨by show w.heap.size ≤ w1.heap.size; omega, l2⟩
end Go.Proofs.Ytibmbbiipffooaa

/- The law DiskKeeps: its math; rows of one cell that grow. -/
namespace Go.Proofs.Ytibmbbiipffooaa
open Go.RowKit Go.Lib Go.Maps
set_option linter.unusedSimpArgs false
set_option linter.unusedVariables false

def dks (d : Dk) (l : List OpM) (j : Nat) : Dk := (l.take j).foldl (fun d x => if x.kind < 4 then doD d x else d) d
theorem dks_succ {d : Dk} {l : List OpM} {j : Nat} (h : j < l.length) : dks d l (j + 1) = if (l[j]).kind < 4 then doD (dks d l j) l[j] else dks d l j := by
  unfold dks
  rw [List.take_succ_eq_append_getElem h, List.foldl_append]
  rfl
theorem dks_ok {d : Dk} {l : List OpM} (h0 : Ok d 0 0) (hw : ∀ x ∈ l, WfO x) : ∀ j, j ≤ l.length → Ok (dks d l j) j (smO l j)
  | 0, _ => by simpa [dks, smO] using h0
  | j + 1, h => by
    have ih := dks_ok h0 hw j (by omega)
    rw [dks_succ (by omega), smO_succ (by omega)]
    split
    · exact ih.do (hw _ (List.getElem_mem _))
    · exact ih.mono (by omega) (by omega)
/-- A disk without a fuse that is up stays so by these calls. -/
def Up (d : Dk) : Prop := d.dead = false ∧ d.fuse = -1
theorem Up.brn {d : Dk} (h : Up d) : brn d = d := by
  unfold _root_.Go.Proofs.Ytibmbbiipffooaa.brn
  rw [if_neg (by have := h.2; omega), if_neg (by have := h.2; omega)]
theorem Up.opM {d : Dk} (h : Up d) {n : Int} {f : Sm → Dk} (hf : ∀ s, Up (f s)) : Up (opM d n f).1 := by
  unfold _root_.Go.Proofs.Ytibmbbiipffooaa.opM
  rw [if_neg (by simp [h.1])]
  cases lk n d.L with
  | none => exact h
  | some s =>
    simp only
    rw [if_neg (by have := h.2; omega)]
    exact hf s
theorem Up.do {d : Dk} (h : Up d) {x : OpM} (hk : x.kind < 4) : Up (doD d x) := by
  unfold doD
  split
  · unfold appD
    rw [if_neg (by simp [h.1])]
    split
    · exact h
    split
    · exact h
    rw [if_neg (by have := h.2; omega), h.brn]
    exact h
  split
  · exact h.opM (fun s => by unfold synF; rw [h.brn]; exact h)
  split
  · exact h.opM (fun s => by unfold drpF; rw [h.brn]; exact h)
  rw [if_neg (by omega), if_neg (by omega), if_neg (by omega), if_neg (by omega)]
  exact h
theorem dks_up {d : Dk} {l : List OpM} (h0 : Up d) : ∀ j, j ≤ l.length → Up (dks d l j)
  | 0, _ => by simpa [dks] using h0
  | j + 1, h => by
    have ih := dks_up (l := l) h0 j (by omega)
    rw [dks_succ (l := l) (by omega)]
    split
    · exact ih.do (by assumption)
    · exact ih
/-- What a crash leaves of a segment. -/
theorem cr_lk {kp : Nat → Int} : ∀ {L : List (Int × Sm)} (s i : Nat), Ris L → (hi : i < L.length) → lk (L[i]).1 (crL kp s L) = if kpN (L[i]).2 (kp (s + i)) = 0 then none else some ((L[i]).2.1.take (kpN (L[i]).2 (kp (s + i))), kpN (L[i]).2 (kp (s + i)))
  | x :: r, s, 0, h, _ => by
    obtain ⟨h1, h2⟩ := List.pairwise_cons.1 h
    rw [crL_cons]
    simp only [List.getElem_cons_zero, Nat.add_zero]
    split
    · exact lk_lt (fun y hy => by
        obtain ⟨z, hz, e⟩ := crL_mem hy
        have := h1 z hz
        omega)
    · simp [lk]
  | x :: r, s, i + 1, h, hi => by
    obtain ⟨h1, h2⟩ := List.pairwise_cons.1 h
    have hir : i < r.length := by simpa using hi
    have ih := cr_lk (kp := kp) (s + 1) i h2 hir
    have e : s + 1 + i = s + (i + 1) := by omega
    rw [e] at ih
    rw [crL_cons]
    simp only [List.getElem_cons_succ]
    split
    · exact ih
    · have hne := h1 _ (List.getElem_mem hir)
      unfold lk
      simp only
      rw [if_neg (by omega)]
      exact ih
/-- What is read behind the crash: bytes from the first on. -/
theorem cr_red {d : Dk} {n u : Nat} (ok : Ok d n u) (ls : List Int) {i : Nat} (hi : i < d.L.length) : ∃ k e, k ≤ (d.L[i]).2.1.length ∧ (d.L[i]).2.2 ≤ k ∧ redD (crD d ls) (d.L[i]).1 = ((d.L[i]).2.1.take k, e) ∧ ((lk (d.L[i]).1 (crD d ls).L).getD ([], 0)).2 = k := by
  have h := cr_lk (kp := kpA ls) 0 i ok.r hi
  have hs := (ok.s _ (List.getElem_mem hi)).1
  have hk := kpN_le (kpA ls (0 + i)) hs
  have hk2 : (d.L[i]).2.2 ≤ kpN (d.L[i]).2 (kpA ls (0 + i)) := by unfold kpN; omega
  obtain ⟨k, e⟩ : ∃ k, kpN (d.L[i]).2 (kpA ls (0 + i)) = k := ⟨_, rfl⟩
  rw [e] at h hk hk2
  by_cases h0 : k = 0
  · rw [if_pos h0] at h
    refine ⟨0, 5, by omega, by omega, ?_, ?_⟩
    · show redD (crD d ls) _ = _
      unfold redD
      rw [if_neg (by simp [crD])]
      show (match lk (d.L[i]).1 (crL (kpA ls) 0 d.L) with | none => _ | some s => _) = _
      rw [h]
      simp
    · show ((lk (d.L[i]).1 (crL (kpA ls) 0 d.L)).getD ([], 0)).2 = 0
      rw [h]
      rfl
  · rw [if_neg h0] at h
    refine ⟨k, 0, hk, hk2, ?_, ?_⟩
    · unfold redD
      rw [if_neg (by simp [crD])]
      show (match lk (d.L[i]).1 (crL (kpA ls) 0 d.L) with | none => _ | some s => _) = _
      rw [h]
    · show ((lk (d.L[i]).1 (crL (kpA ls) 0 d.L)).getD ([], 0)).2 = k
      rw [h]
      rfl
theorem up_red {d : Dk} (h : Up d) (hr : Ris d.L) {i : Nat} (hi : i < d.L.length) : redD d (d.L[i]).1 = ((d.L[i]).2.1, 0) := by
  unfold redD
  rw [if_neg (by simp [h.1]), lk_of hr (show ((d.L[i]).1, (d.L[i]).2) ∈ d.L from List.getElem_mem hi)]
theorem up_syn {d : Dk} (hr : Ris d.L) {i : Nat} (hi : i < d.L.length) : ((lk (d.L[i]).1 d.L).getD ([], 0)).2 = (d.L[i]).2.2 := by
  rw [lk_of hr (show ((d.L[i]).1, (d.L[i]).2) ∈ d.L from List.getElem_mem hi)]
  rfl
theorem rowOnD {w W : World} {base e m : Nat} {u : Value} {us : List Value} (h : w.ownsRow base e 1 u m us) (hb : Below w.heap.size w W) : W.ownsRow base e 1 u m us := ownsRow_keep h (fun g hg => hb.block g (ownsRow_lt h g hg).2)
theorem rowBaseD {w : World} {b b' e m : Nat} {u : Value} {us : List Value} (h : w.ownsRow b e 1 u m us) (hb : b' ≤ b) : w.ownsRow b' e 1 u m us := by
  obtain ⟨h1, h2⟩ := h
  refine ⟨h1, ?_⟩
  rcases h2 with h2 | ⟨g, cap, cur, e1, e2, e3⟩
  · exact .inl h2
  · exact .inr ⟨g, cap, cur, e1, Nat.le_trans hb e2, e3⟩
/-- Rows of one cell each that grow side by side, and one that stays: apart, all of it behind what was there in w0. -/
structure Tre (w0 w : World) (i j k n : Nat) (a b c v : Value) (xs ys zs vs : List Value) : Prop where
  bel : Below w0.heap.size w0 w
  rx : w.ownsRow w0.heap.size 3 1 a i xs
  ry : w.ownsRow w0.heap.size 9 1 b j ys
  rz : w.ownsRow w0.heap.size 3 1 c k zs
  rv : w.ownsRow w0.heap.size 5 1 v n vs
  xy : ∀ g, a.ownBlock = some g → b.ownBlock ≠ some g
  xz : ∀ g, a.ownBlock = some g → c.ownBlock ≠ some g
  yz : ∀ g, b.ownBlock = some g → c.ownBlock ≠ some g
  xv : ∀ g, a.ownBlock = some g → v.ownBlock ≠ some g
  yv : ∀ g, b.ownBlock = some g → v.ownBlock ≠ some g
  zv : ∀ g, c.ownBlock = some g → v.ownBlock ≠ some g
theorem tre_none (w : World) : Tre w w 0 0 0 0 (.slice none 0 0) (.slice none 0 0) (.slice none 0 0) (.slice none 0 0) [] [] [] [] :=
  ⟨Below.refl _ _, World.ownsRow_nil _ _ _ _, World.ownsRow_nil _ _ _ _, World.ownsRow_nil _ _ _ _, World.ownsRow_nil _ _ _ _, fun g h => by simp [Value.ownBlock] at h, fun g h => by simp [Value.ownBlock] at h, fun g h => by simp [Value.ownBlock] at h, fun g h => by simp [Value.ownBlock] at h, fun g h => by simp [Value.ownBlock] at h, fun g h => by simp [Value.ownBlock] at h⟩
section
variable {w0 w W : World} {i j k n : Nat} {a b c v : Value} {xs ys zs vs : List Value}
theorem Tre.on (h : Tre w0 w i j k n a b c v xs ys zs vs) (hb : Below w.heap.size w W) : Tre w0 W i j k n a b c v xs ys zs vs :=
  ⟨h.bel.trans (hb.mono h.bel.size), rowOnD h.rx hb, rowOnD h.ry hb, rowOnD h.rz hb, rowOnD h.rv hb, h.xy, h.xz, h.yz, h.xv, h.yv, h.zv⟩
theorem Tre.dw (h : Tre w0 w i j k n a b c v xs ys zs vs) : Tre w0 w.drew i j k n a b c v xs ys zs vs := h.on (Below.refl _ _).drew
theorem Tre.al (h : Tre w0 w i j k n a b c v xs ys zs vs) (o : Obj) : Tre w0 (w.alloc o) i j k n a b c v xs ys zs vs := h.on ((Below.refl _ _).alloc (Nat.le_refl _) o)
theorem Tre.bs (h : Tre w0 w i j k n a b c v xs ys zs vs) : w0.heap.size ≤ w.heap.size := h.bel.size
def Gtr (w0 W : World) (n : Nat) (v : Value) (vs : List Value) : Prop := ∃ i j k a b c xs ys zs, Tre w0 W i j k n a b c v xs ys zs vs
theorem Tre.g (h : Tre w0 w i j k n a b c v xs ys zs vs) : Gtr w0 w n v vs := ⟨_, _, _, _, _, _, _, _, _, h⟩
theorem Gtr.dw (h : Gtr w0 w n v vs) : Gtr w0 w.drew n v vs := by
  obtain ⟨_, _, _, _, _, _, _, _, _, h⟩ := h
  exact h.dw.g
theorem Gtr.al (h : Gtr w0 w n v vs) (o : Obj) : Gtr w0 (w.alloc o) n v vs := by
  obtain ⟨_, _, _, _, _, _, _, _, _, h⟩ := h
  exact (h.al o).g
theorem Gtr.bel (h : Gtr w0 w n v vs) : Below w0.heap.size w0 w := by
  obtain ⟨_, _, _, _, _, _, _, _, _, h⟩ := h
  exact Tre.bel h
theorem Gtr.rv (h : Gtr w0 w n v vs) : w.ownsRow w0.heap.size 5 1 v n vs := by
  obtain ⟨_, _, _, _, _, _, _, _, _, h⟩ := h
  exact Tre.rv h
/-- Another row that stays, of new memory. -/
theorem Tre.new (h : Tre w0 w i j k n a b c v xs ys zs vs) (hb : Below w.heap.size w W) {m : Nat} {u : Value} {us : List Value} (hu : W.ownsRow w.heap.size 5 1 u m us) : Tre w0 W i j k m a b c u xs ys zs us := by
  have hd : ∀ r : Value, (∀ g, r.ownBlock = some g → w0.heap.size ≤ g ∧ g < w.heap.size) → ∀ g, r.ownBlock = some g → u.ownBlock ≠ some g := fun r hr g hg hu' => by
    have h1 := (hr g hg).2
    have h2 := (ownsRow_lt hu g hu').1
    omega
  exact ⟨h.bel.trans (hb.mono h.bel.size), rowOnD h.rx hb, rowOnD h.ry hb, rowOnD h.rz hb, rowBaseD hu h.bel.size, h.xy, h.xz, h.yz, hd a (ownsRow_lt h.rx), hd b (ownsRow_lt h.ry), hd c (ownsRow_lt h.rz)⟩
theorem blk_far {r r' u : Value} {N : Nat} (hat : r'.ownBlock = r.ownBlock ∨ r'.ownBlock = some N) (hru : ∀ g, r.ownBlock = some g → u.ownBlock ≠ some g) (hu : ∀ g, u.ownBlock = some g → g < N) : ∀ g, r'.ownBlock = some g → u.ownBlock ≠ some g := fun g hg hu' => by
  rcases hat with e | e
  · exact hru g (e.symm.trans hg) hu'
  · have : N = g := Option.some.inj (e.symm.trans hg)
    have := hu g hu'
    omega
theorem row_gr {base e m : Nat} {r u : Value} {us : List Value} {wa : World} (hu : W.ownsRow base e 1 u m us) (hg : W.grownBy wa r.ownBlock) (hru : ∀ g, r.ownBlock = some g → u.ownBlock ≠ some g) : wa.ownsRow base e 1 u m us :=
  ownsRow_keep hu (fun g hg' => hg.block g (ownsRow_lt hu g hg').2 (fun e => hru g e.symm hg'))
theorem flip_ne {r u : Value} (h : ∀ g, r.ownBlock = some g → u.ownBlock ≠ some g) : ∀ g, u.ownBlock = some g → r.ownBlock ≠ some g := fun g hg hr => h g hr hg
theorem Tre.gx {wa : World} {a' : Value} {xs' : List Value} {i' : Nat} (h : Tre w0 W i j k n a b c v xs ys zs vs) (hg : W.grownBy wa a.ownBlock) (ho : wa.ownsRow w0.heap.size 3 1 a' i' xs') (hat : a'.ownBlock = a.ownBlock ∨ a'.ownBlock = some W.heap.size) : Tre w0 wa i' j k n a' b c v xs' ys zs vs :=
  ⟨h.bel.grown hg h.bel.size (fun q hq => (ownsRow_lt h.rx q hq).1), ho, row_gr h.ry hg h.xy, row_gr h.rz hg h.xz, row_gr h.rv hg h.xv,
    blk_far hat h.xy (fun g hg => (ownsRow_lt h.ry g hg).2), blk_far hat h.xz (fun g hg => (ownsRow_lt h.rz g hg).2), h.yz, blk_far hat h.xv (fun g hg => (ownsRow_lt h.rv g hg).2), h.yv, h.zv⟩
theorem Tre.gy {wa : World} {b' : Value} {ys' : List Value} {j' : Nat} (h : Tre w0 W i j k n a b c v xs ys zs vs) (hg : W.grownBy wa b.ownBlock) (ho : wa.ownsRow w0.heap.size 9 1 b' j' ys') (hat : b'.ownBlock = b.ownBlock ∨ b'.ownBlock = some W.heap.size) : Tre w0 wa i j' k n a b' c v xs ys' zs vs :=
  ⟨h.bel.grown hg h.bel.size (fun q hq => (ownsRow_lt h.ry q hq).1), row_gr h.rx hg (flip_ne h.xy), ho, row_gr h.rz hg h.yz, row_gr h.rv hg h.yv,
    flip_ne (blk_far hat (flip_ne h.xy) (fun g hg => (ownsRow_lt h.rx g hg).2)), h.xz, blk_far hat h.yz (fun g hg => (ownsRow_lt h.rz g hg).2), h.xv, blk_far hat h.yv (fun g hg => (ownsRow_lt h.rv g hg).2), h.zv⟩
theorem Tre.gz {wa : World} {c' : Value} {zs' : List Value} {k' : Nat} (h : Tre w0 W i j k n a b c v xs ys zs vs) (hg : W.grownBy wa c.ownBlock) (ho : wa.ownsRow w0.heap.size 3 1 c' k' zs') (hat : c'.ownBlock = c.ownBlock ∨ c'.ownBlock = some W.heap.size) : Tre w0 wa i j k' n a b c' v xs ys zs' vs :=
  ⟨h.bel.grown hg h.bel.size (fun q hq => (ownsRow_lt h.rz q hq).1), row_gr h.rx hg (flip_ne h.xz), row_gr h.ry hg (flip_ne h.yz), ho, row_gr h.rv hg h.zv,
    h.xy, flip_ne (blk_far hat (flip_ne h.xz) (fun g hg => (ownsRow_lt h.rx g hg).2)), flip_ne (blk_far hat (flip_ne h.yz) (fun g hg => (ownsRow_lt h.ry g hg).2)), h.xv, h.yv, blk_far hat h.zv (fun g hg => (ownsRow_lt h.rv g hg).2)⟩
end
/-- One cell in a block of its own is what an append takes. -/
theorem src_bn {P : Program} {t e : TypeId} (ht : P.underlying t = some (.slice e)) {w : World} {k : Nat} {u : Value} (h : Bn w k [u]) (h1 : u.oneCell' = true) : Src P 1 t (.slice (some ⟨k, 0, none⟩) 1 1) 1 [u] w :=
  Src.ofSlice _ ht _ 1 1 _ (by simp) (fun j v hj => by
    have := (h j v hj).1
    rw [add_plain, Nat.zero_add]
    exact this) (fun v hv => by rw [List.mem_singleton.1 hv]; exact h1)
end Go.Proofs.Ytibmbbiipffooaa

/- The law DiskKeeps: the loops. -/
namespace Go.Proofs.Ytibmbbiipffooaa
open Go.RowKit Go.Lib Go.Maps
set_option linter.unusedSimpArgs false
set_option linter.unusedVariables false
attribute [local go_sem ↓] Go.wp_at_zero Go.wp_at_succ

theorem inf_int : (Try.prog.info? 3).map (fun i => (i.zero, i.size, i.bytes)) = some (some (.int .i64 0), 1, 8) := by kernel_rfl
theorem inf_str : (Try.prog.info? 9).map (fun i => (i.zero, i.size, i.bytes)) = some (some (.string ⟨#[]⟩), 1, 16) := by kernel_rfl
theorem inf_get {t : TypeId} {z : Value} {a b : Nat} (h : (Try.prog.info? t).map (fun i => (i.zero, i.size, i.bytes)) = some (some z, a, b)) : ∃ i, Try.prog.info? t = some i ∧ i.zero = some z ∧ i.size = a ∧ i.bytes = b := by
  cases hq : Try.prog.info? t with
  | none => rw [hq] at h; cases h
  | some i =>
    rw [hq] at h
    simp only [Option.map_some, Option.some.injEq, Prod.mk.injEq] at h
    exact ⟨i, rfl, h.1, h.2.1, h.2.2⟩
theorem Bn.al {w : World} {k : Nat} {u : Value} (h : Bn w k [u]) (o : Obj) : Bn (w.alloc o) k [u] := h.on ((Below.refl _ _).alloc (Nat.le_refl _) o)
theorem Bn.dw {w : World} {k : Nat} {u : Value} (h : Bn w k [u]) : Bn w.drew k [u] := h.blk rfl
theorem Bn.nw (w : World) (u : Value) (e : TypeId) : Bn (w.alloc (.cells #[u] e)) w.heap.size [u] := Bn.new w [u] e _ rfl
theorem str_take (xs : List Int) (k : Nat) : (strOfNums xs).extract 0 k = strOfNums (xs.take k) := by
  apply ByteArray.ext
  rw [ByteArray.data_extract]
  simp [strOfNums]
theorem cutT {p q : Prop} (h : p) (f : p → q) : q := f h
theorem Bn.nwk {w : World} {k : Nat} (h : k = w.heap.size) (u : Value) (e : TypeId) : Bn (w.alloc (.cells #[u] e)) k [u] := by
  subst h
  exact Bn.nw w u e
theorem Bn.gr {w w' : World} {k : Nat} {u v : Value} (h : Bn w k [u]) (hg : w.grownBy w' v.ownBlock) (hv : v.ownBlock ≠ some k) : Bn w' k [u] := h.blk (hg.block k h.lt (fun e => hv e.symm))
theorem t2_segs {W : World} {A : Nat → Prop} {X Y : Nat} {d e : Dk} (h : T2 W A X Y d e) (hl : d.L.length ≤ 100000) :
    Calls Try.prog 11 #[.pointer (some ⟨X, 0, none⟩)] W fun e w' => (∃ v, e = .returned v ∧ w'.ownsRow W.heap.size 3 1 v d.L.length ((d.L.map (·.1)).map (Value.int .i64))) ∧ Below W.heap.size W w' := by
  obtain ⟨F, G, h1, _⟩ := h
  exact dsegs_any h1 hl
theorem t2_synced {W : World} {A : Nat → Prop} {X Y : Nat} {d e : Dk} (h : T2 W A X Y d e) {n : Int} (hn : (Lit.int .i64 n).wf = true) :
    Calls Try.prog 13 #[.pointer (some ⟨X, 0, none⟩), .int .i64 n] W fun e w' => e = .returned (.int .i64 (((lk n d.L).getD ([], 0)).2 : Int)) ∧ W = w' := by
  obtain ⟨F, G, h1, _⟩ := h
  exact dsynced_any h1 hn
theorem t2_down {W : World} {A : Nat → Prop} {X Y : Nat} {d e : Dk} (h : T2 W A X Y d e) :
    Calls Try.prog 15 #[.pointer (some ⟨X, 0, none⟩)] W fun e w' => e = .returned (.bool d.dead) ∧ W = w' := by
  obtain ⟨F, G, h1, _⟩ := h
  exact ddown_any h1
def nmV (d : Dk) : List Value := d.L.map fun x => .int .i64 x.1
def wsV (d : Dk) : List Value := d.L.map fun x => .string (strOfNums x.2.1)
def syV (d : Dk) : List Value := d.L.map fun x => .int .i64 (x.2.2 : Int)
theorem take_snoc {α β : Type} {f : α → β} {l : List α} {j : Nat} (h : j < l.length) : (l.map f).take (j + 1) = (l.map f).take j ++ [f l[j]] := by
  rw [List.take_succ_eq_append_getElem (by simpa using h)]
  simp
set_option maxRecDepth 100000 in
set_option maxHeartbeats 8000000 in
theorem diskKeeps_walk {w : World} {l : List OpM} {v : Value} (h : RdO w l v) (hw : ∀ x ∈ l, WfO x) {ls : List Int} {lv : Value} (h2 : RdI w ls lv) (hls : ls.length ≤ 140737488351232) : Calls Try.prog 4 #[v, lv] w fun e w' => e = .returned (.bool true) ∧ Below w.heap.size w w' := by
  have haw := fun W => dawake_any W
  obtain ⟨R, hR⟩ : ∃ R, fewL 0 0 l = R := ⟨_, rfl⟩
  have hfew := fun (W : World) (b : Below w.heap.size w W) => few_any (h.on b) hw
  simp only [hR] at hfew
  obtain ⟨a, c, rfl, hlc, hcm, hcell⟩ := h
  obtain ⟨la, lc, rfl, hll⟩ := h2.form
  unfold maxLen at hcm
  have hb0 : Below w.heap.size w w := Below.refl _ _
  cases R with
  | false =>
    clear hR hcell
    go_enter Try.func4, Try.ntmps4
    go_wp2_with (first
      | (go_at_call 5; refine (haw _).mono ?_; rintro e w2 ⟨rfl, b2⟩; have hb0 := hb0.trans (b2.mono hb0.size))
      | (go_at_call 6; refine (hfew _ hb0).mono ?_; rintro e w3 ⟨rfl, rfl⟩)
      | fail)
    go_ret
    exact ⟨rfl, hb0⟩
  | true =>
    by_cases hk100 : (ls.length : Int) > 100
    · clear hR hcell
      go_enter Try.func4, Try.ntmps4
      go_wp2_with (first
        | (go_at_call 5; refine (haw _).mono ?_; rintro e w2 ⟨rfl, b2⟩; have hb0 := hb0.trans (b2.mono hb0.size))
        | (go_at_call 6; refine (hfew _ hb0).mono ?_; rintro e w3 ⟨rfl, rfl⟩)
        | fail)
      go_ret
      exact ⟨rfl, hb0⟩
    have hnew := fun W => dnew_any W 100000
    have hnewq := fun W => qnew_any W 100000
    obtain ⟨D0, hD0⟩ : ∃ k, (⟨[], max 100000 0, -1, false⟩ : Dk) = k := ⟨_, rfl⟩
    have hok0 : Ok D0 0 0 := by rw [← hD0]; exact ok_new 100000 (by omega)
    have hup0 : Up D0 := by rw [← hD0]; exact ⟨rfl, rfl⟩
    rw [hD0] at hnew hnewq
    have hok := fun j (hj : j ≤ l.length) => dks_ok hok0 hw j hj
    have hup := fun j (hj : j ≤ l.length) => dks_up (l := l) hup0 j hj
    obtain ⟨m, hm⟩ : ∃ k, l.length = k := ⟨_, rfl⟩
    have HOK := hideD hok
    have HUP := hideD hup
    have HFA := hideD (few_all hR)
    have HL := hideD hcell
    have HM := hideD hm
    have HI := hideD h2
    have HW := hideD hw
    rw [hm] at hlc hfew ⊢
    have hm2 : m ≤ 150 := by have := few_len hR; omega
    obtain ⟨nl, hnl⟩ : ∃ k, ls.length = k := ⟨_, rfl⟩
    rw [hnl] at hk100 hll ⊢
    have HNL := hideD hnl
    clear hR hcell hok hok0 hD0 hm hup hup0 hw h2 hls hnl
    go_enter Try.func4, Try.ntmps4
    go_upto_region 5 with (first
      | (go_at_call 5; refine (haw _).mono ?_; rintro e w2 ⟨rfl, b2⟩; have hb0 := hb0.trans (b2.mono hb0.size))
      | (go_at_call 6; refine (hfew _ hb0).mono ?_; rintro e w3 ⟨rfl, rfl⟩)
      | (go_at_call 7; refine (hnew _).mono ?_; rintro e w4 ⟨rfl, p4, b4⟩)
      | (go_at_call 8; refine (hnewq _).mono ?_; rintro e w5 ⟨rfl, p5, b5⟩)
      | fail)
    have ht0 := t2_new p4 b4 p5 b5
    have hk0 : Kf (fun j => w2.heap.size ≤ j) w2 w5 := (Kf.of b4 (Nat.le_refl _)).trans (Kf.of b5 (Nat.le_refl _))
    have HB := hideD hb0
    have HT0 := hideD ht0
    have HK0 := hideD hk0
    obtain ⟨X, hX⟩ : ∃ k, w2.heap.size = k := ⟨_, rfl⟩
    obtain ⟨Y, hY⟩ : ∃ k, w4.heap.size = k := ⟨_, rfl⟩
    rw [hX, hY] at HT0
    rw [hX] at HK0
    rw [hX, hY]
    have HX := hideD hX
    clear hb0 ht0 hk0 p4 b4 p5 b5 hX hY b2 haw hfew hnew hnewq
    go_wp2
    go_loopw [35] (fun ix wr => ∃ (j : Nat), j ≤ m ∧ ix = .int .i64 (j : Int) ∧ Hid (T2 wr (fun j => X ≤ j) X Y (dks D0 l j) (dks D0 l j)) ∧ Hid (Kf (fun j => X ≤ j) w2 wr)) (fun ix _ => m - (RowKit.intOf ix).toNat)
    case atStart => exact ⟨0, Nat.zero_le _, rfl, HT0, HK0⟩
    case round =>
      obtain ⟨j, hj, rfl, HT, HK⟩ := hrel
      by_cases hlt : j < m
      · have hjl : j < l.length := by rw [HM.out]; exact hlt
        obtain ⟨b, off, cs, ha, _, hbl, _, ⟨bv, lv, rfl, h4, h5⟩, hcs⟩ := HL.out j hjl
        subst ha
        obtain ⟨ba, bc, rfl, _⟩ := id h4
        obtain ⟨la', lc', rfl, _⟩ := h5.form
        obtain ⟨f1, f2, f3, _⟩ := HFA.out j hjl
        have f4 := smO_succ hjl
        have hws : w.heap.size ≤ X := by have := HB.out.size; have := HX.out; omega
        have hwr : Kf (fun j => X ≤ j) w wr := (Kf.of (HB.out.trans (Below.refl _ _)) (Nat.le_refl _)).trans HK.out
        have hokj := HOK.out j (by omega)
        have hxs : X ≤ wr.heap.size := by have := HK.out.size; have := HX.out; omega
        have hdo := ldo_any (x := l[j]) (bv := .slice ba (l[j]).bs.length bc) (lv := .slice la' (l[j]).ls.length lc') ⟨HT.out, hokj.mono (by omega) (by omega), fun i hi => by show X ≤ i; omega, fun i hi => by have hi : X ≤ i := hi; omega, hwr, h4, h5, HW.out _ (List.getElem_mem hjl), by omega, f3⟩
        have hds := dks_succ (d := D0) hjl
        have hbw : Below w.heap.size w wr := hwr.below (fun i hi => by have hi : X ≤ i := hi; omega) (Nat.le_refl _)
        have hcr := fun i u hi => (hbw.cell (p := ⟨b, off + j * 6 + i, none⟩) hbl).trans (hcs i u hi)
        have c0 := hcr 0 _ rfl
        rw [Nat.add_zero] at c0
        have c1 := hcr 1 _ rfl
        have c2 := hcr 2 _ rfl
        have c3 := hcr 3 _ rfl
        have c4 := hcr 4 _ rfl
        have c5 := hcr 5 _ rfl
        obtain ⟨x, hx⟩ : ∃ k, l[j] = k := ⟨_, rfl⟩
        rw [hx] at hdo c0 c1 c2 c3 c4 c5 hds
        have i1 : (j : Int) < (m : Int) := by omega
        have i2 : (0 : Int) ≤ (j : Int) := by omega
        by_cases hk4 : x.kind < 4
        · rw [if_pos hk4] at hds
          rw [← hds] at hdo
          obtain ⟨D1, hD1⟩ : ∃ k, dks D0 l (j + 1) = k := ⟨_, rfl⟩
          rw [hD1] at hdo
          have HD1 := hideD hD1
          clear hcr hcs hD1 hx hbw hokj hwr f1 f2 f3 f4 h4 h5 hxs hws hds
          go_wp2_with (first
            | (go_at_call 9; refine hdo.mono ?_; rintro e w6 ⟨rfl, t6, k6⟩; clear hdo; have HT6 := hideD t6; have HK6 := hideD (HK.out.trans k6); clear t6 k6)
            | fail)
          go_roundw
          case rel =>
            refine ⟨j + 1, hlt, by go_num, ?_, HK6⟩
            rw [HD1.out]
            exact HT6
          case measure => simp [RowKit.intOf]; omega
        · rw [if_neg hk4] at hds
          rw [← hds] at HT
          clear hcr hcs hx hbw hokj hwr f1 f2 f3 f4 h4 h5 hxs hws hds hdo
          go_wp2
          go_roundw
          case rel => exact ⟨j + 1, hlt, by go_num, HT, HK⟩
          case measure => simp [RowKit.intOf]; omega
      · have k1 : ¬ (j : Int) < (m : Int) := by omega
        obtain rfl : j = m := by omega
        have hokm := HOK.out j (by have := HM.out; omega)
        have hupm := HUP.out j (by have := HM.out; omega)
        have hsm : smO l j ≤ 50000 := by
          rcases Nat.eq_zero_or_pos j with e | e
          · subst e; simp [smO]
          · have := (HFA.out (j - 1) (by have := HM.out; omega)).2.1
            rwa [show j - 1 + 1 = j by omega] at this
        obtain ⟨D, hD⟩ : ∃ k, dks D0 l j = k := ⟨_, rfl⟩
        rw [hD] at HT hokm hupm
        have hokD : Ok D 150 50000 := hokm.mono (by omega) hsm
        clear hokm hD HOK HUP HL HW HFA HT0 HK0 hlt hsm
        have hsg := t2_segs HT.out (by have := hokD.len; omega)
        obtain ⟨n, hn⟩ : ∃ k, D.L.length = k := ⟨_, rfl⟩
        rw [hn] at hsg
        have HN := hideD hn
        have hn2 : n ≤ 150 := by have := hokD.len; omega
        have HOD := hideD hokD
        have HUD := hideD hupm
        clear hn hokD hupm
        go_upto_region 15 with (first
          | (go_at_call 11; refine hsg.mono ?_; rintro e w8 ⟨⟨sv, rfl, ho⟩, b8⟩; clear hsg; obtain ⟨sa, sc, rfl, hsl, hsm⟩ := dorow_form ho)
          | fail)
        have HT8 := hideD (HT.out.on b8)
        have HB8 := hideD (HK.out.trans (Kf.of b8 (Nat.le_refl _)))
        have HO := hideD ho
        have HR0 := hideD (tre_none w8)
        clear ho b8
        go_wp2
        go_loopw [8, 9, 10, 56] (fun ra rb rc ix wr => ∃ (j : Nat), j ≤ n ∧ ix = .int .i64 (j : Int) ∧ Hid (∃ k v vs, Tre w8 wr j j j k ra rb rc v ((nmV D).take j) ((wsV D).take j) ((syV D).take j) vs)) (fun _ _ _ ix _ => n - (RowKit.intOf ix).toNat)
        case atStart => exact ⟨0, Nat.zero_le _, rfl, hideD ⟨_, _, _, HR0.out⟩⟩
        case round =>
          obtain ⟨j, hj, rfl, HR⟩ := hrel
          obtain ⟨k0, v0, vs0, hR⟩ := HR.out
          have HBj := hideD hR.bel
          have HTr := hideD hR
          clear hR HR
          by_cases hlt : j < n
          · have hjl : j < D.L.length := by rw [HN.out]; exact hlt
            have hTr := HT8.out.on HBj.out
            have hris := HOD.out.r
            have hwf := (HOD.out.s _ (List.getElem_mem hjl)).2
            have hrd := up_red HUD.out hris hjl
            have hsy := up_syn hris hjl
            have e1 := take_snoc (f := fun x : Int × Sm => Value.int .i64 x.1) hjl
            have e2 := take_snoc (f := fun x : Int × Sm => Value.string (strOfNums x.2.1)) hjl
            have e3 := take_snoc (f := fun x : Int × Sm => Value.int .i64 (x.2.2 : Int)) hjl
            obtain ⟨gs, rfl⟩ : ∃ gs, sa = some ⟨gs, 0, none⟩ := by
              rcases HO.out.2 with ⟨e, h0⟩ | ⟨gs, cap, cur, e, _⟩
              · omega
              · simp only [Value.slice.injEq] at e
                exact ⟨gs, e.1⟩
            have hgb := World.ownsRow.lt HO.out gs rfl
            have cj := World.ownsRow.cells HO.out (g := gs) rfl j (.int .i64 (D.L[j]).1) (by simp [hjl])
            rw [add_plain, Nat.zero_add] at cj
            have Cj := (HBj.out.cell (p := ⟨gs, j, none⟩) hgb.2).trans cj
            have hrdc := t2_read hTr (by have := HOD.out.us; omega) hwf
            have hsyn := fun W (b : Below w8.heap.size w8 W) => t2_synced (HT8.out.on b) hwf
            rw [hrd] at hrdc
            simp only [hsy] at hsyn
            have HOu := hideD (Nat.le_trans (usM_mem (List.getElem_mem hjl)) HOD.out.us)
            obtain ⟨x, hx⟩ : ∃ k, D.L[j] = k := ⟨_, rfl⟩
            rw [hx] at e1 e2 e3 cj Cj hrdc hsyn HOu
            obtain ⟨nn, sb, sn⟩ := x
            simp only at e1 e2 e3 cj Cj hrdc hsyn HOu
            have HE1 := hideD e1
            have HE2 := hideD e2
            have HE3 := hideD e3
            have i1 : (j : Int) < (n : Int) := by omega
            have i2 : (0 : Int) ≤ (j : Int) := by omega
            clear hrd hsy hris hx hwf e1 e2 e3
            go_upto_region 19 with (first
              | (go_at_call 12; refine hrdc.mono ?_; rintro e w9 ⟨⟨v9, rfl, o9⟩, b9⟩; clear hrdc; obtain ⟨r1, r2, rfl, _, _⟩ := slice_form o9)
              | fail)
            have hT0 := HTr.out.new b9 o9
            have HS := hideD (show ∀ (W : World), Gtr w8 W sb.length (.slice r1 sb.length r2) (sb.map (Value.int .u8)) → (W.cell? ⟨gs, j, none⟩ = some (.int .i64 nn) ∧ (convert 30 9 (.slice r1 sb.length r2)).run Try.prog W = .ok (.string (strOfNums sb)) W) from fun W t => ⟨(t.bel.cell (p := ⟨gs, j, none⟩) hgb.2).trans cj, (show Own W w8.heap.size 5 _ _ from t.rv).rd.convert Try.underlying30 Try.underlying5 Try.underlying9⟩)
            have hsyn2 := hideD (show ∀ W, Below w8.heap.size w8 W → Calls Try.prog 13 #[.pointer (some ⟨X, 0, none⟩), .int .i64 nn] W fun e w' => e = .returned (.int .i64 (sn : Int)) ∧ W = w' from hsyn)
            obtain ⟨s0, hs0⟩ : ∃ k, strOfNums sb = k := ⟨_, rfl⟩
            rw [hs0] at HS HE2
            obtain ⟨ib, hib⟩ : ∃ k, sb.map (Value.int .u8) = k := ⟨_, rfl⟩
            rw [hib] at HS hT0
            obtain ⟨lb, hlb⟩ : ∃ k, sb.length = k := ⟨_, rfl⟩
            rw [hlb] at HS hT0 ⊢
            obtain ⟨nv, hnv⟩ : ∃ k, (nmV D).take j = k := ⟨_, rfl⟩
            obtain ⟨wv, hwv⟩ : ∃ k, (wsV D).take j = k := ⟨_, rfl⟩
            obtain ⟨yv, hyv⟩ : ∃ k, (syV D).take j = k := ⟨_, rfl⟩
            rw [hnv, hwv, hyv] at hT0
            have HNV := hideD hnv
            have HWV := hideD hwv
            have HYV := hideD hyv
            obtain ⟨ii, hi, hi0, hi1, hi2⟩ := inf_get inf_int
            obtain ⟨is, hs, hs0', hs1, hs2⟩ := inf_get inf_str
            obtain ⟨A1, C1, rfl, _⟩ := dorow_form hT0.rx
            obtain ⟨A2, C2, rfl, _⟩ := dorow_form hT0.ry
            obtain ⟨A3, C3, rfl, _⟩ := dorow_form hT0.rz
            have HA1 := hideD (fun g hg => (ownsRow_lt hT0.rx g hg).2)
            have hT := hT0
            have hG := hT.g
            clear hsyn hs0 hib hlb hnv hwv hyv o9 b9 Cj cj hT0
            go_region_held_law (fun w' => w'.cell? ⟨gs, j, none⟩ = some (.int .i64 nn) ∧ (convert 30 9 (.slice r1 lb r2)).run Try.prog w' = .ok (.string s0) w')
              (((with_reducible refine HS.out _ ?_); (repeat (first | (with_reducible exact hG) | (with_reducible refine Gtr.dw ?_) | (with_reducible refine Gtr.al ?_ _))); done))
              (first
                | (refine step_append_at _ (by rfl) (.tmp 68) (.tmp 73) 31 31 (by rfl) w8.heap.size 3 ii (.int .i64 0) 1 8 Try.underlying31 hi hi0 hi1 hi2 rfl (.slice A1 j C1) j nv (by rfl) (by (repeat (first | (with_reducible exact hT.rx) | (with_reducible refine World.ownsRow.drew ?_) | (with_reducible refine World.ownsRow.alloc ?_ _)))) _ 1 [.int .i64 nn] (by rfl) (by refine src_bn Try.underlying31 ?_ rfl; (repeat (first | (with_reducible exact Bn.nw _ _ _) | (with_reducible exact nb2) | ((with_reducible refine Bn.nwk ?_ _ _); (first | (simp; done) | rfl)) | (with_reducible refine Bn.dw ?_) | (with_reducible refine Bn.al ?_ _)))) 1 (.inr (by omega)) (Nat.le_refl _) (by unfold maxLen; omega) (Tre.bs (show Tre w8 _ j j j lb (.slice A1 j C1) (.slice A2 j C2) (.slice A3 j C3) (.slice r1 lb r2) nv wv yv ib from (by (repeat (first | (with_reducible exact hT) | (with_reducible refine Tre.dw ?_) | (with_reducible refine Tre.al ?_ _)))))) ?_; intro v1 wa1 hO hg hat; have hT' := fun (t : Tre w8 _ j j j lb (.slice A1 j C1) (.slice A2 j C2) (.slice A3 j C3) (.slice r1 lb r2) nv wv yv ib) => Tre.gx t hg hO hat; have hT := hT' (by (repeat (first | (with_reducible exact hT) | (with_reducible refine Tre.dw ?_) | (with_reducible refine Tre.al ?_ _)))); clear hT'; have hG := hT.g; obtain ⟨B1, E1, rfl, _⟩ := dorow_form hO; (first | (refine cutT (p := Bn wa1 (w9.heap.size + 1) [.string s0]) ?_ ?_; (focus (refine Bn.gr (?_ : Bn _ (w9.heap.size + 1) [.string s0]) hg ?_; (focus ((repeat (first | (with_reducible exact Bn.nw _ _ _) | ((with_reducible refine Bn.nwk ?_ _ _); (first | (simp; done) | rfl)) | (with_reducible refine Bn.dw ?_) | (with_reducible refine Bn.al ?_ _))); done)); (focus (intro e; have := HA1.out _ e; omega)))); intro nb2) | (refine cutT (p := Bn wa1 w9.heap.size [.string s0]) ?_ ?_; (focus (refine Bn.gr (?_ : Bn _ w9.heap.size [.string s0]) hg ?_; (focus ((repeat (first | (with_reducible exact Bn.nw _ _ _) | ((with_reducible refine Bn.nwk ?_ _ _); (first | (simp; done) | rfl)) | (with_reducible refine Bn.dw ?_) | (with_reducible refine Bn.al ?_ _))); done)); (focus (intro e; have := HA1.out _ e; omega)))); intro nb2) | skip))
                | (refine step_append_at _ (by rfl) (.tmp 75) (.tmp 78) 36 36 (by rfl) w8.heap.size 9 is (.string ⟨#[]⟩) 1 16 Try.underlying36 hs hs0' hs1 hs2 rfl (.slice A2 j C2) j wv (by rfl) (by (repeat (first | (with_reducible exact hT.ry) | (with_reducible refine World.ownsRow.drew ?_) | (with_reducible refine World.ownsRow.alloc ?_ _)))) _ 1 [.string s0] (by rfl) (by refine src_bn Try.underlying36 ?_ rfl; (repeat (first | (with_reducible exact Bn.nw _ _ _) | (with_reducible exact nb2) | ((with_reducible refine Bn.nwk ?_ _ _); (first | (simp; done) | rfl)) | (with_reducible refine Bn.dw ?_) | (with_reducible refine Bn.al ?_ _)))) 1 (.inr (by omega)) (Nat.le_refl _) (by unfold maxLen; omega) (Tre.bs (show Tre w8 _ (j + 1) j j lb (.slice B1 (j + 1) E1) (.slice A2 j C2) (.slice A3 j C3) (.slice r1 lb r2) (nv ++ [.int .i64 nn]) wv yv ib from (by (repeat (first | (with_reducible exact hT) | (with_reducible refine Tre.dw ?_) | (with_reducible refine Tre.al ?_ _)))))) ?_; intro v2 wa2 hO hg hat; have hT' := fun (t : Tre w8 _ (j + 1) j j lb (.slice B1 (j + 1) E1) (.slice A2 j C2) (.slice A3 j C3) (.slice r1 lb r2) (nv ++ [.int .i64 nn]) wv yv ib) => Tre.gy t hg hO hat; have hT := hT' (by (repeat (first | (with_reducible exact hT) | (with_reducible refine Tre.dw ?_) | (with_reducible refine Tre.al ?_ _)))); clear hT'; have hG := hT.g; obtain ⟨B2, E2, rfl, _⟩ := dorow_form hO)
                | (refine step_append_at _ (by rfl) (.tmp 80) (.tmp 87) 31 31 (by rfl) w8.heap.size 3 ii (.int .i64 0) 1 8 Try.underlying31 hi hi0 hi1 hi2 rfl (.slice A3 j C3) j yv (by rfl) (by (repeat (first | (with_reducible exact hT.rz) | (with_reducible refine World.ownsRow.drew ?_) | (with_reducible refine World.ownsRow.alloc ?_ _)))) _ 1 [.int .i64 (sn : Int)] (by rfl) (by refine src_bn Try.underlying31 ?_ rfl; (repeat (first | (with_reducible exact Bn.nw _ _ _) | (with_reducible exact nb2) | ((with_reducible refine Bn.nwk ?_ _ _); (first | (simp; done) | rfl)) | (with_reducible refine Bn.dw ?_) | (with_reducible refine Bn.al ?_ _)))) 1 (.inr (by omega)) (Nat.le_refl _) (by unfold maxLen; omega) (Tre.bs (show Tre w8 _ (j + 1) (j + 1) j lb (.slice B1 (j + 1) E1) (.slice B2 (j + 1) E2) (.slice A3 j C3) (.slice r1 lb r2) (nv ++ [.int .i64 nn]) (wv ++ [.string s0]) yv ib from (by (repeat (first | (with_reducible exact hT) | (with_reducible refine Tre.dw ?_) | (with_reducible refine Tre.al ?_ _)))))) ?_; intro v3 wa3 hO hg hat; have hT' := fun (t : Tre w8 _ (j + 1) (j + 1) j lb (.slice B1 (j + 1) E1) (.slice B2 (j + 1) E2) (.slice A3 j C3) (.slice r1 lb r2) (nv ++ [.int .i64 nn]) (wv ++ [.string s0]) yv ib) => Tre.gz t hg hO hat; have hT := hT' (by (repeat (first | (with_reducible exact hT) | (with_reducible refine Tre.dw ?_) | (with_reducible refine Tre.al ?_ _)))); clear hT'; have hG := hT.g; obtain ⟨B3, E3, rfl, _⟩ := dorow_form hO)
                | (go_at_call 13; refine (hsyn2.out _ (Gtr.bel (n := lb) (v := .slice r1 lb r2) (vs := ib) (by (repeat (first | (with_reducible exact hG) | (with_reducible refine Gtr.dw ?_) | (with_reducible refine Gtr.al ?_ _)))))).mono ?_; rintro e w11 ⟨rfl, rfl⟩)
                | fail)
            all_goals (
              have HTN := hideD hT
              clear hT hG HS HTr HA1 hsyn2
              go_wp2
              go_roundw
              (case rel =>
                refine ⟨j + 1, hlt, by go_num, hideD ⟨lb, .slice r1 lb r2, ib, ?_⟩⟩
                have q1 : (nmV D).take (j + 1) = nv ++ [.int .i64 nn] := HE1.out.trans (by rw [← HNV.out]; rfl)
                have q2 : (wsV D).take (j + 1) = wv ++ [.string s0] := HE2.out.trans (by rw [← HWV.out]; rfl)
                have q3 : (syV D).take (j + 1) = yv ++ [.int .i64 (sn : Int)] := HE3.out.trans (by rw [← HYV.out]; rfl)
                rw [q1, q2, q3]
                exact HTN.out)
              (case measure => simp [RowKit.intOf]; omega))
          · have k2 : ¬ (j : Int) < (n : Int) := by omega
            obtain rfl : j = n := by omega
            have hT := HTr.out
            have t1 : (nmV D).take j = nmV D := List.take_of_length_le (by simp [nmV, HN.out])
            have t2 : (wsV D).take j = wsV D := List.take_of_length_le (by simp [wsV, HN.out])
            have t3 : (syV D).take j = syV D := List.take_of_length_le (by simp [syV, HN.out])
            rw [t1, t2, t3] at hT
            obtain ⟨A1, C1, rfl, _⟩ := dorow_form hT.rx
            obtain ⟨A2, C2, rfl, _⟩ := dorow_form hT.ry
            obtain ⟨A3, C3, rfl, _⟩ := dorow_form hT.rz
            have hsw := hT.bel.size
            have hxs : X ≤ w8.heap.size := by have := HB8.out.size; have := HX.out; omega
            have hws : w.heap.size ≤ X := by have := HB.out.size; have := HX.out; omega
            have hTc : T2 wr (fun i => X ≤ i ∧ (i < w8.heap.size ∨ wr.heap.size ≤ i)) X Y D D := (HT8.out.keep (Nat.le_refl _) (fun _ _ _ => rfl) (fun i hi hA => ⟨hA, .inl hi⟩)).on hT.bel
            have hkw : Kf (fun i => X ≤ i) w wr := ((Kf.of HB.out (Nat.le_refl _)).trans HB8.out).trans (Kf.of hT.bel (Nat.le_refl _))
            have hI := HI.out
            rw [HNL.out] at hI
            have hcr := t2_cr (lv := .slice la nl lc) hTc (HOD.out.mono (by omega) (by omega)) (fun i hi => ⟨by omega, .inr hi⟩) (ls := ls) (by rw [HNL.out]; omega) (fun F w1 hF k => rdI_kf hI hkw (fun i hi => Nat.le_trans hws hi) (fun i hi => (hF i hi).1) k)
            have HT := hideD hT
            have HKW := hideD hkw
            clear hTc hkw hT t1 t2 t3 HTr
            go_upto_region 22 with (first
              | (go_at_call 14; refine hcr.mono ?_; rintro e w12 ⟨rfl, t12, k12⟩; clear hcr)
              | fail)
            have keepR : ∀ {e : TypeId} {v : Value} {xs : List Value}, wr.ownsRow w8.heap.size e 1 v j xs → w12.ownsRow w8.heap.size e 1 v j xs := fun h => ownsRow_keep h (fun g hg => k12.block g (ownsRow_lt h g hg).2 (fun e => by have := ownsRow_lt h g hg; omega))
            have o1 := keepR HT.out.rx
            have o2 := keepR HT.out.ry
            have o3 := keepR HT.out.rz
            have HO1 := hideD o1
            have HO2 := hideD o2
            have HO3 := hideD o3
            have HT12 := hideD t12
            have HK12 := hideD (HKW.out.trans (k12.mono (fun i hi => hi.1)))
            have HB12 := hideD (Below.refl w12.heap.size w12)
            clear o1 o2 o3 t12 k12 keepR
            go_wp2
            go_loopw [95] (fun ix wr => ∃ (i : Nat), i ≤ j ∧ ix = .int .i64 (i : Int) ∧ Hid (Below w12.heap.size w12 wr)) (fun ix _ => j - (RowKit.intOf ix).toNat)
            case atStart => exact ⟨0, Nat.zero_le _, rfl, HB12⟩
            case round =>
              obtain ⟨i, hi, rfl, HBi⟩ := hrel
              by_cases hlt2 : i < j
              · have hil : i < D.L.length := by rw [HN.out]; exact hlt2
                have hTr := HT12.out.on HBi.out
                obtain ⟨kk, ee, kle, ksn, hrd, hsy⟩ := cr_red HOD.out ls hil
                have hwf := (HOD.out.s _ (List.getElem_mem hil)).2
                have hOc := HOD.out.cr ls
                have hrdc := t2_read hTr (by have := hOc.us; omega) hwf
                have hsyn := fun W (b : Below wr.heap.size wr W) => t2_synced (hTr.on b) hwf
                rw [hrd] at hrdc
                simp only [hsy] at hsyn
                have hcell : ∀ {e : TypeId} {v : Value} {xs : List Value} {u : Value} {A : Option Addr} {C : Nat}, v = .slice A j C → w12.ownsRow w8.heap.size e 1 v j xs → xs[i]? = some u → ∃ g, A = some ⟨g, 0, none⟩ ∧ g < wr.heap.size ∧ wr.cell? ⟨g, i, none⟩ = some u := fun {e v xs u A C} hv ho hu => by
                  subst hv
                  rcases ho.2 with ⟨e1, h0⟩ | ⟨g, cap, cur, e1, _⟩
                  · omega
                  · simp only [Value.slice.injEq] at e1
                    obtain ⟨rfl, _⟩ := e1
                    have hg := World.ownsRow.lt ho g rfl
                    have hc := World.ownsRow.cells ho (g := g) rfl i u hu
                    rw [add_plain, Nat.zero_add] at hc
                    exact ⟨g, rfl, by have := HBi.out.size; omega, (HBi.out.cell (p := ⟨g, i, none⟩) hg.2).trans hc⟩
                obtain ⟨g1, rfl, l1, x1⟩ := hcell rfl HO1.out (u := .int .i64 (D.L[i]).1) (by simp [nmV, hil])
                obtain ⟨g2, rfl, l2, x2⟩ := hcell rfl HO2.out (u := .string (strOfNums (D.L[i]).2.1)) (by simp [wsV, hil])
                obtain ⟨g3, rfl, l3, x3⟩ := hcell rfl HO3.out (u := .int .i64 ((D.L[i]).2.2 : Int)) (by simp [syV, hil])
                obtain ⟨x, hx⟩ : ∃ k, D.L[i] = k := ⟨_, rfl⟩
                rw [hx] at kle ksn hrdc hsyn x1 x2 x3
                obtain ⟨nn, sb, sn⟩ := x
                simp only at kle ksn hrdc hsyn x1 x2 x3
                have hsl : ∀ W, (Instr.slice 9 (.string (strOfNums sb)) none (some (.int .i64 (kk : Int))) none).run Try.prog W = .ok (.string (strOfNums (sb.take kk))) W := fun W => by
                  have h := run_slice_string_h (P := Try.prog) W 9 (strOfNums sb) Try.underlying9 .i64 (kk : Int) (by omega) (by rw [strOfNums_size]; omega)
                  rw [Int.toNat_natCast, str_take] at h
                  exact h
                have hszs := strOfNums_size sb
                obtain ⟨s0, hs0⟩ : ∃ k, strOfNums sb = k := ⟨_, rfl⟩
                rw [hs0] at x2 hsl hszs
                have hlen : (sb.take kk).length = kk := by rw [List.length_take]; omega
                obtain ⟨tb, htb⟩ : ∃ k, sb.take kk = k := ⟨_, rfl⟩
                rw [htb] at hrdc hsl hlen
                have q1 : decide (kk < sn) = false := decide_eq_false (by omega)
                have q2 : decide (s0.size < kk) = false := decide_eq_false (by omega)
                have q3 : (kk : Int) ≤ (s0.size : Int) := by omega
                have j1 : (i : Int) < (j : Int) := by omega
                have j2 : (0 : Int) ≤ (i : Int) := by omega
                have HLEN := hideD hlen
                clear hrd hsy hx hwf hOc hcell hs0 htb kle ksn hlen
                go_upto_region 26 with (first
                  | (go_at_call 12; refine hrdc.mono ?_; rintro e w13 ⟨⟨v13, rfl, o13⟩, b13⟩; clear hrdc; obtain ⟨r1, r2, rfl, _, _⟩ := slice_form o13)
                  | fail)
                have hbr := HBi.out.trans (b13.mono HBi.out.size)
                have hsy13 : ∀ m, Calls Try.prog 13 #[.pointer (some ⟨X, 0, none⟩), .int .i64 nn] (w13.drewN m) fun e w' => e = .returned (.int .i64 (kk : Int)) ∧ ∃ k, w' = w13.drewN k := fun m => (hsyn (w13.drewN m) ⟨b13.os, b13.tape, b13.output, b13.size, b13.block⟩).mono (fun e w' hh => ⟨hh.1, m, hh.2.symm⟩)
                have hcv : ∀ m, (convert 30 9 (.slice r1 tb.length r2)).run Try.prog (w13.drewN m) = .ok (.string (strOfNums tb)) (w13.drewN m) := fun m => (show Rd (w13.drewN m) _ _ from rd_on o13.rd ⟨rfl, rfl, rfl, Nat.le_refl _, fun _ _ => rfl⟩).convert Try.underlying30 Try.underlying5 Try.underlying9
                have y1 := (b13.cell (p := ⟨g1, i, none⟩) l1).trans x1
                have y2 := (b13.cell (p := ⟨g2, i, none⟩) l2).trans x2
                have y3 := (b13.cell (p := ⟨g3, i, none⟩) l3).trans x3
                obtain ⟨st, hst⟩ : ∃ k, strOfNums tb = k := ⟨_, rfl⟩
                rw [hst] at hcv hsl
                rw [HLEN.out] at hcv ⊢
                have HBR := hideD hbr
                clear hst hbr o13 b13 x1 x2 x3 hsyn hszs hTr
                go_quiet (first | exact hsy13 _)
                generalize hw3 : w13.drewN nq = w3 at *
                have hb3 : Below w12.heap.size w12 w3 := by
                  rw [← hw3]
                  have h := HBR.out
                  exact ⟨h.os, h.tape, h.output, by simpa using h.size, h.block⟩
                have HB3 := hideD hb3
                clear hw3 hb3 hsy13 hcv
                go_wp2
                go_roundw
                case rel => exact ⟨i + 1, hlt2, by go_num, HB3⟩
                case measure => simp [RowKit.intOf]; omega
              · have k3 : ¬ (i : Int) < (j : Int) := by omega
                have hTr := HT12.out.on HBi.out
                have hdn := t2_down hTr
                have hsg := t2_segs hTr (by have := (HOD.out.cr ls).len; omega)
                have hlen : ((crD D ls).L.length : Int) ≤ (j : Int) := by
                  have h := (crL_us (kp := kpA ls) 0 (fun x hx => (HOD.out.s x hx).1)).2
                  have := HN.out
                  show ((crL (kpA ls) 0 D.L).length : Int) ≤ _
                  omega
                have hdd : (crD D ls).dead = false := rfl
                rw [hdd] at hdn
                obtain ⟨ln, hln⟩ : ∃ k, (crD D ls).L.length = k := ⟨_, rfl⟩
                rw [hln] at hsg hlen
                clear hln hdd
                go_wp2_with (first
                  | (go_at_call 15; refine hdn.mono ?_; rintro e w14 ⟨rfl, rfl⟩; clear hdn)
                  | (go_at_call 11; refine hsg.mono ?_; rintro e w15 ⟨⟨sv, rfl, ho⟩, b15⟩; clear hsg; obtain ⟨qa, qc, rfl, _, _⟩ := dorow_form ho)
                  | fail)
                go_ret
                exact ⟨rfl, (HK12.out.trans (Kf.of (HBi.out.trans (b15.mono HBi.out.size)) (Nat.le_refl _))).below (fun i hi => Nat.le_trans hws hi) (Nat.le_refl _)⟩
end Go.Proofs.Ytibmbbiipffooaa

/- An argument that is a slice of bytes, opened: the bytes that it reads as, each from 0 to 255, and their number within the form's reach. -/
namespace Go.Proofs.Ytibmbbiipffooaa
open Go.ChangeShapes Go.WideShapes Go.ChangeAt Go.RowKit

end Go.Proofs.Ytibmbbiipffooaa

/- Nodes: which one lies in which, by how deep they lie, and by their parents. Math alone. -/
namespace Go.Proofs.Ytibmbbiipffooaa
set_option linter.unusedVariables false

/-- The last one ahead of k that lies less than d deep. -/
def ppar (D : Nat → Int) (d : Int) : Nat → Int
  | 0 => -1
  | k + 1 => if D k < d then (k : Int) else ppar D d k
/-- The first one from j on, of f, that lies no more than d deep. -/
def pbeh (D : Nat → Int) (d : Int) : Nat → Nat → Nat
  | 0, j => j
  | f + 1, j => if d < D j then pbeh D d f (j + 1) else j
/-- Each lies at most 1 deeper than the one ahead. -/
def nst (D : Nat → Int) (n : Nat) : Prop := ∀ i < n, 0 ≤ D i ∧ (i = 0 → D i ≤ 0) ∧ (0 < i → D i ≤ D (i - 1) + 1)
/-- What is told of the nodes follows of how deep they lie. -/
def FmP (n : Nat) (D P B : Nat → Int) (L : Nat → Bool) : Prop :=
  n ≤ 40 ∧ nst D n ∧ ∀ i < n, P i = ppar D (D i) i ∧ B i = (pbeh D (D i) (n - (i + 1)) (i + 1) : Nat) ∧ L i = decide (B i = (i : Int) + 1)
end Go.Proofs.Ytibmbbiipffooaa

/- Nodes in memory. -/
namespace Go.Proofs.Ytibmbbiipffooaa
open Go.RowKit Go.Lib
set_option linter.unusedSimpArgs false
set_option linter.unusedVariables false

instance decNst (D : Nat → Int) (n : Nat) : Decidable (nst D n) := by unfold nst; infer_instance
instance decFmP (n : Nat) (D P B : Nat → Int) (L : Nat → Bool) : Decidable (FmP n D P B L) := by unfold FmP; infer_instance
theorem RdK.on {α : Type} {ok : Nat → Prop} {w w' : World} {k : Nat} {R : (Nat → Prop) → World → α → List Value → Prop} {v : Value} {l : List α} (hR : Kp R) (h : RdK ok w k (R ok w) l v) (hb : Below w.heap.size w w') : RdK ok w' k (R ok w') l v :=
  h.stay hR (fun b hk hlt => ⟨hk, hb.block b hlt⟩)
end Go.Proofs.Ytibmbbiipffooaa

/- Arguments that are rows of nodes, opened. -/
namespace Go.Proofs.Ytibmbbiipffooaa
open Go.ChangeShapes Go.WideShapes Go.ChangeAt Go.RowKit
set_option linter.unusedSimpArgs false
set_option linter.unusedVariables false

theorem pickD {α : Type} {Q : Nat → α → Prop} : ∀ n, (∀ i, i < n → ∃ y, Q i y) → ∃ l : List α, l.length = n ∧ ∀ i (h : i < l.length), Q i l[i]
  | 0, _ => ⟨[], rfl, fun i h => absurd h (by simp)⟩
  | n + 1, h => by
    obtain ⟨l, hl, hq⟩ := pickD n (fun i hi => h i (by omega))
    obtain ⟨y, hy⟩ := h n (by omega)
    refine ⟨l ++ [y], by simp [hl], fun i hi => ?_⟩
    by_cases hin : i < l.length
    · rw [List.getElem_append_left hin]
      exact hq i hin
    · have e : i = l.length := by simp at hi; omega
      subst e
      simp only [List.getElem_concat_length]
      rw [hl]
      exact hy
theorem weights_allD {H : Type} {P : Program} {e : TypeId} : ∀ {l : List (DataW H)} {d : DataW H}, d ∈ l → ∀ n ∈ d.weights P e, n ∈ DataW.weightsAll P e l
  | x :: r, d, h, n, hn => by
    simp only [DataW.weightsAll, List.mem_append]
    rcases List.mem_cons.1 h with rfl | h
    · exact .inl hn
    · exact .inr (weights_allD h n hn)
/-- What is met is not larger than what there may be. -/
def WtD {H : Type} (t : TypeId) (d : DataW H) : Prop := ∀ n ∈ d.weights Try.prog t, n ≤ reachBytes
theorem WtD.field {H : Type} {t u : TypeId} {fs : Array Field} {f : Field} {xs : List (DataW H × List MemPlace)} {y : DataW H × List MemPlace} (hu : Try.prog.underlying t = some (.struct fs)) (h : WtD t (.agg (xs.map (·.1)))) (j : Nat) (hf : fs[j]? = some f) (hy : xs[j]? = some y) (ht : f.type = u) : WtD u y.1 := fun n hn => by
  refine h n ?_
  simp only [DataW.weights, hu]
  refine DataW.weights_mem_each (j := j) (t := u) (d := y.1) ?_ (by simp [hy]) n hn
  simp [hf, ht]
theorem spot_noneD {w : World} {a : Addr} {v : Value} (h : w.cell? (a.add 0) = some v) : a = ⟨a.block, a.off, none⟩ := by
  rw [show a.add 0 = a from by simp [Addr.add]] at h
  unfold World.cell? at h
  split at h
  · obtain ⟨b, o, s⟩ := a
    cases s with
    | none => rfl
    | some x => simp at h
  · cases h
theorem RdK.bothD {α : Type} {ok : Nat → Prop} {w : World} {k : Nat} {R : α → List Value → Prop} {Q : α → Prop} {l : List α} {v : Value} (h : RdK ok w k (fun x cs => R x cs ∧ Q x) l v) : RdK ok w k R l v ∧ ∀ x ∈ l, Q x := by
  obtain ⟨a, cap, h1, h2, h3, h4⟩ := h
  refine ⟨⟨a, cap, h1, h2, h3, fun i hi => ?_⟩, fun x hx => ?_⟩
  · obtain ⟨b, off, cs, q1, q2, q3, q4, q5, q6⟩ := h4 i hi
    exact ⟨b, off, cs, q1, q2, q3, q4, q5.1, q6⟩
  · obtain ⟨i, hi, rfl⟩ := List.getElem_of_mem hx
    obtain ⟨b, off, cs, q1, q2, q3, q4, q5, q6⟩ := h4 i hi
    exact q5.2
section
variable {H : Type} {enc : TypeId × Value → H} {W : World}
theorem open_rowD {α : Type} {k : Nat} {R : α → List Value → Prop} {sl el : TypeId} (hu : Try.prog.underlying sl = some (.slice el)) (hc : Try.prog.cellsOf el = k) (hk : 0 < k) (hby : decide (1 ≤ Try.prog.bytesOf el) = true) {fuel : Nat} {cs : List Value} {x : DataW H × List MemPlace}
    (h : DataW.trod enc Try.prog W 0 (fun _ => true) true fuel sl cs = some x) (hw : WtD sl x.1) (hel : ∀ n' cs' y, fuel = n' + 1 → DataW.trod enc Try.prog W 0 (fun _ => true) true n' el cs' = some y → WtD el y.1 → ∃ a, R a cs') :
    ∃ (l : List α) (v : Value), cs = [v] ∧ RdK (fun _ => True) W k R l v ∧ l.length ≤ 140737488351232 := by
  rcases DataW.trod_slice hu h with ⟨rfl, _⟩ | ⟨ad, len, cap, elems, rest, n', hn', rfl, rfl, _, hlc, hcm, hel', helt, _, _⟩
  · exact ⟨[], _, rfl, rdK_none _ _ _ _, by simp⟩
  · have hlw : len ≤ 140737488351232 := by
      have h0 := hw ((elems.length + rest.length) * Try.prog.bytesOf el) (by simp [DataW.weights, hu])
      have h1 : (elems.length + rest.length) * 1 ≤ (elems.length + rest.length) * Try.prog.bytesOf el := Nat.mul_le_mul_left _ (of_decide_eq_true hby)
      have h2 : reachBytes = 140737488351232 := rfl
      omega
    rw [hc] at helt
    have hall : ∀ i, i < len → ∃ q : α × List Value, W.cells? 0 (ad.add (i * k)) k = some q.2 ∧ R q.1 q.2 := by
      intro i hi
      have h1 := helt i hi
      have hie : i < elems.length := by omega
      rw [List.getElem?_eq_getElem hie] at h1
      obtain ⟨cs', h2, h3⟩ := Option.bind_eq_some_iff.1 h1
      obtain ⟨a, ha⟩ := hel n' cs' _ hn' h3 (fun n hn => by
        refine hw n ?_
        simp only [DataW.weights, hu]
        exact List.mem_cons_of_mem _ (List.mem_append_left _ (weights_allD (List.mem_map_of_mem (List.getElem_mem hie)) n hn)))
      exact ⟨(a, cs'), h2, ha⟩
    obtain ⟨l, hll, hfy⟩ := pickD len hall
    refine ⟨l.map (·.1), _, rfl, ⟨some ad, cap, by simp [hll], by simpa [hll] using hlc, hcm, fun i hi => ?_⟩, by simpa [hll] using hlw⟩
    have hi' : i < l.length := by simpa using hi
    obtain ⟨_, q2, q3⟩ := World.cells?_some (hfy 0 (by omega)).1
    obtain ⟨_, g2, g3⟩ := World.cells?_some (hfy i hi').1
    have hs : ad = ⟨ad.block, ad.off, none⟩ := by
      have := q3 0 hk
      rw [Nat.zero_mul, show (ad.add 0).add 0 = ad.add 0 from by simp [Addr.add], List.getElem?_eq_getElem (by omega)] at this
      exact spot_noneD this
    generalize ad.block = b at hs
    generalize ad.off = off at hs
    subst hs
    have g4 : ∀ j u, (l[i]).2[j]? = some u → W.cell? ⟨b, off + i * k + j, none⟩ = some u := fun j u hj => by
      have hjl := (List.getElem?_eq_some_iff.1 hj).1
      have := g3 j (by omega)
      rw [add_plain, add_plain, hj] at this
      exact this
    refine ⟨b, off, (l[i]).2, rfl, trivial, ?_, g2, ?_, g4⟩
    · exact World.block_lt_of_cell? W _ (g4 0 _ (List.getElem?_eq_getElem (by omega)))
    · rw [List.getElem_map]
      exact (hfy i hi').2
theorem open_intsD {fuel : Nat} {cs : List Value} {x : DataW H × List MemPlace} (h : DataW.trod enc Try.prog W 0 (fun _ => true) true fuel 31 cs = some x) (hw : WtD 31 x.1) : ∃ (l : List Int) (v : Value), cs = [v] ∧ RdI W l v ∧ l.length ≤ 140737488351232 :=
  open_rowD (k := 1) (R := rIntD) Try.underlying31 (by kernel_rfl) (by decide) (by kernel_rfl) h hw (fun n' cs' y _ hy _ => by
    obtain ⟨k, rfl, _, _⟩ := DataW.trod_int Try.underlying3 hy
    exact ⟨k, rfl⟩)
theorem open_bytesD {fuel : Nat} {cs : List Value} {x : DataW H × List MemPlace} (h : DataW.trod enc Try.prog W 0 (fun _ => true) true fuel 30 cs = some x) (hw : WtD 30 x.1) : ∃ (bs : List Int) (v : Value), cs = [v] ∧ Rd W v bs ∧ (∀ b ∈ bs, 0 ≤ b ∧ b ≤ 255) ∧ bs.length ≤ 140737488351232 := by
  have hshape : cs = [.slice none 0 0] ∨ ∃ ad len cap, cs = [.slice (some ad) len cap] := by
    rcases DataW.trod_slice Try.underlying30 h with ⟨e, _⟩ | ⟨ad, len, cap, elems, rest, n', hn', e, _⟩
    · exact .inl e
    · exact .inr ⟨ad, len, cap, e⟩
  obtain ⟨l, v, rfl, h1, h2⟩ := open_rowD (k := 1) (R := fun (x : Int) cs => cs = [.int .u8 x] ∧ 0 ≤ x ∧ x ≤ 255) Try.underlying30 (by kernel_rfl) (by decide) (by kernel_rfl) h hw (fun n' cs' y _ hy _ => by
    obtain ⟨k, rfl, _, hk⟩ := DataW.trod_int Try.underlying5 hy
    have : 0 ≤ k ∧ k ≤ 255 := by simpa [Lit.wf, IntKind.min, IntKind.max, IntKind.signed, IntKind.bits] using hk
    exact ⟨k, rfl, this⟩)
  obtain ⟨h3, h4⟩ := RdK.bothD (R := fun (x : Int) cs => cs = [.int .u8 x]) (Q := fun x => 0 ≤ x ∧ x ≤ 255) h1
  obtain ⟨a, c, rfl, hl, hm, hc⟩ := h3
  refine ⟨l, _, rfl, ⟨a, c, rfl, hl, hm, fun e => ?_, fun y hy i hi => ?_⟩, h4, h2⟩
  · subst e
    rcases hshape with e | ⟨ad, len, cap, e⟩
    · simp only [List.cons.injEq, Value.slice.injEq, and_true, true_and] at e
      exact ⟨List.eq_nil_of_length_eq_zero e.1, e.2⟩
    · simp at e
  · obtain ⟨b, off, cs, e, _, _, _, e2, e3⟩ := hc i hi
    subst e2
    rw [e] at hy
    obtain rfl := Option.some.inj hy
    have := e3 0 _ rfl
    rw [Nat.mul_one, Nat.add_zero] at this
    rw [add_plain]
    simpa [List.getD, hi] using this
set_option maxRecDepth 100000 in
theorem open_op {fuel : Nat} {cs : List Value} {x : DataW H × List MemPlace} (h : DataW.trod enc Try.prog W 0 (fun _ => true) true fuel 33 cs = some x) (hw : WtD 33 x.1) : ∃ y : OpM, rOp W y cs ∧ WfO y := by
  obtain ⟨xs, n, _, rfl, hl, hlen, hf⟩ := DataW.trod_struct Try.underlying33 h
  have hc : Try.prog.cellsOf 33 = 6 := by kernel_rfl
  have cI : Try.prog.cellsOf 3 = 1 := by kernel_rfl
  have c5 : Try.prog.cellsOf 5 = 1 := by kernel_rfl
  have cb : Try.prog.cellsOf 30 = 1 := by kernel_rfl
  have cl : Try.prog.cellsOf 31 = 1 := by kernel_rfl
  rw [hc] at hl
  have f0 : DataW.trod enc Try.prog W 0 (fun _ => true) true n 3 ((cs.drop 0).take (Try.prog.cellsOf 3)) = xs[0]? := hf 0 _ rfl
  have f1 : DataW.trod enc Try.prog W 0 (fun _ => true) true n 3 ((cs.drop 1).take (Try.prog.cellsOf 3)) = xs[1]? := hf 1 _ rfl
  have f2 : DataW.trod enc Try.prog W 0 (fun _ => true) true n 3 ((cs.drop 2).take (Try.prog.cellsOf 3)) = xs[2]? := hf 2 _ rfl
  have f3 : DataW.trod enc Try.prog W 0 (fun _ => true) true n 5 ((cs.drop 3).take (Try.prog.cellsOf 5)) = xs[3]? := hf 3 _ rfl
  have f4 : DataW.trod enc Try.prog W 0 (fun _ => true) true n 30 ((cs.drop 4).take (Try.prog.cellsOf 30)) = xs[4]? := hf 4 _ rfl
  have f5 : DataW.trod enc Try.prog W 0 (fun _ => true) true n 31 ((cs.drop 5).take (Try.prog.cellsOf 31)) = xs[5]? := hf 5 _ rfl
  rw [cI] at f0 f1 f2
  rw [c5] at f3
  rw [cb] at f4
  rw [cl] at f5
  match cs, hl, xs, hlen with
  | [a, b, c, d, e, f], _, [y0, y1, y2, y3, y4, y5], _ =>
    have w4 := hw.field Try.underlying33 4 rfl rfl rfl
    have w5 := hw.field Try.underlying33 5 rfl rfl rfl
    simp only [List.drop_zero, List.take_succ_cons, List.take_zero, List.drop_succ_cons, List.getElem?_cons_zero, List.getElem?_cons_succ] at f0 f1 f2 f3 f4 f5
    obtain ⟨k0, e0, _, _⟩ := DataW.trod_int Try.underlying3 f0
    obtain ⟨k1, e1, _, u1⟩ := DataW.trod_int Try.underlying3 f1
    obtain ⟨k2, e2, _, u2⟩ := DataW.trod_int Try.underlying3 f2
    obtain ⟨k3, e3, _, u3⟩ := DataW.trod_int Try.underlying5 f3
    obtain ⟨bs, v4, e4, r4, b4, l4⟩ := open_bytesD f4 w4
    obtain ⟨ls, v5, e5, r5, l5⟩ := open_intsD f5 w5
    simp only [List.cons.injEq, and_true] at e0 e1 e2 e3 e4 e5
    subst e0 e1 e2 e3 e4 e5
    exact ⟨⟨k0, k1, k2, k3, bs, ls⟩, ⟨_, _, rfl, r4, r5⟩, ⟨u1, u2, by simpa [Lit.wf, IntKind.min, IntKind.max, IntKind.signed, IntKind.bits] using u3, b4, l4, l5⟩⟩
theorem open_ops {a : Option Addr} {len cap : Nat} {d : DataW H} {p : List MemPlace} (h : DataW.Trod enc Try.prog W 0 (fun _ => true) true 22 (.slice a len cap) d p) (hw : WtD 22 d) : ∃ l : List OpM, RdO W l (.slice a len cap) ∧ ∀ x ∈ l, WfO x := by
  obtain ⟨fuel, hf⟩ := h
  obtain ⟨l, v, e, h1, _⟩ := open_rowD (k := 6) (R := fun x cs => rOp W x cs ∧ WfO x) Try.underlying22 (by kernel_rfl) (by decide) (by kernel_rfl) hf hw (fun n' cs' y _ hy hwy => open_op hy hwy)
  have e' : v = .slice a len cap := by simpa [Value.cells] using e.symm
  subst e'
  obtain ⟨h3, h4⟩ := RdK.bothD h1
  exact ⟨l, h3, h4⟩
theorem open_intl {a : Option Addr} {len cap : Nat} {d : DataW H} {p : List MemPlace} (h : DataW.Trod enc Try.prog W 0 (fun _ => true) true 31 (.slice a len cap) d p) (hw : WtD 31 d) : ∃ l : List Int, RdI W l (.slice a len cap) ∧ l.length ≤ 140737488351232 := by
  obtain ⟨fuel, hf⟩ := h
  obtain ⟨l, v, e, h1, h2⟩ := open_intsD hf hw
  have e' : v = .slice a len cap := by simpa [Value.cells] using e.symm
  subst e'
  exact ⟨l, h1, h2⟩
end
end Go.Proofs.Ytibmbbiipffooaa
