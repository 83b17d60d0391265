import Derived.Test.YtibmbbiipffooaaXfc06
import Derived.Test.YtibmbbiipffooaaXfc04
import Derived.Deep.RegionHeldLaw

/- The law of stage 14: Same. Begun: lay as LdS.lean. -/
namespace Go.Proofs.Ytibmbbiipffooaa
open Go.RowKit Go.Lib Go.Maps
set_option linter.unusedSimpArgs false
set_option linter.unusedVariables false
attribute [local go_sem ↓] Go.wp_at_zero Go.wp_at_succ

end Go.Proofs.Ytibmbbiipffooaa

/- Two disks side by side; what a call of the law's leaves. -/
namespace Go.Proofs.Ytibmbbiipffooaa
open Go.RowKit Go.Lib Go.Maps
set_option linter.unusedSimpArgs false
set_option linter.unusedVariables false

/-- The program's disk d in block X, the document's disk e in block Y, in memory apart, all of it in blocks of A. -/
def T2 (w : World) (A : Nat → Prop) (X Y : Nat) (d e : Dk) : Prop := ∃ F G : Nat → Prop, PD w X F d ∧ QD w Y G e ∧ (∀ j, F j → A j ∧ j < w.heap.size ∧ ¬ G j) ∧ ∀ j, G j → A j ∧ j < w.heap.size
theorem PD.clip {w : World} {X : Nat} {F : Nat → Prop} {d : Dk} (h : PD w X F d) : PD w X (cF F w) d := h.mono (fun j hj hF => ⟨hF, hj⟩)
theorem QD.clip {w : World} {Y : Nat} {G : Nat → Prop} {d : Dk} (h : QD w Y G d) : QD w Y (cF G w) d := h.keep (fun _ _ _ => rfl) (fun j hj hG => ⟨hG, hj⟩)
theorem QD.on {w w' : World} {Y : Nat} {G : Nat → Prop} {d : Dk} (h : QD w Y G d) (hb : Below w.heap.size w w') : QD w' Y G d := h.keep (fun b _ hlt => hb.block b hlt) (fun _ _ h => h)
theorem T2.keep {w w' : World} {A A' : Nat → Prop} {X Y : Nat} {d e : Dk} (h : T2 w A X Y d e) (hs : w.heap.size ≤ w'.heap.size) (hk : ∀ j, A j → j < w.heap.size → w'.heap[j]? = w.heap[j]?) (hA : ∀ j, j < w.heap.size → A j → A' j) : T2 w' A' X Y d e := by
  obtain ⟨F, G, h1, h2, h3, h4⟩ := h
  exact ⟨F, G, h1.keep (fun b hb hlt => hk b (h3 b hb).1 hlt), h2.keep (fun b hb hlt => hk b (h4 b hb).1 hlt) (fun _ _ h => h), fun j hj => by have := h3 j hj; exact ⟨hA j this.2.1 this.1, by omega, this.2.2⟩, fun j hj => by have := h4 j hj; exact ⟨hA j this.2 this.1, by omega⟩⟩
theorem T2.on {w w' : World} {A : Nat → Prop} {X Y : Nat} {d e : Dk} (h : T2 w A X Y d e) (hb : Below w.heap.size w w') : T2 w' A X Y d e := h.keep hb.size (fun j _ hlt => hb.block j hlt) (fun _ _ h => h)
/-- What is new is none of theirs. -/
theorem T2.but {w : World} {A : Nat → Prop} {X Y : Nat} {d e : Dk} (h : T2 w A X Y d e) {N : Nat} (hN : w.heap.size ≤ N) : T2 w (fun j => A j ∧ j ≠ N) X Y d e := h.keep (Nat.le_refl _) (fun _ _ _ => rfl) (fun j hj hA => ⟨hA, by omega⟩)
theorem T2.x {w : World} {A : Nat → Prop} {X Y : Nat} {d e : Dk} (h : T2 w A X Y d e) : A X ∧ X < w.heap.size := by
  obtain ⟨F, G, h1, h2, h3, h4⟩ := h
  obtain ⟨mv, E, fz, q1, _⟩ := h1
  exact ⟨(h3 X q1).1, (h3 X q1).2.1⟩
theorem T2.y {w : World} {A : Nat → Prop} {X Y : Nat} {d e : Dk} (h : T2 w A X Y d e) : A Y ∧ Y < w.heap.size := by
  obtain ⟨F, G, h1, h2, h3, h4⟩ := h
  obtain ⟨Lv, E, q1, _⟩ := h2
  exact h4 Y q1
/-- A step of the program's disk. -/
theorem T2.stepP {w : World} {A : Nat → Prop} {X Y : Nat} {d d' e : Dk} {f : Nat} {args : Array Value} {Q : Ending → World → Prop} (h : T2 w A X Y d e) (hA : ∀ j, w.heap.size ≤ j → A j)
    (hc : ∀ F, PD w X F d → (∀ j, F j → A j) → Calls Try.prog f args w fun r w' => Q r w' ∧ PD w' X (nF F w) d' ∧ Kf F w w') : Calls Try.prog f args w fun r w' => Q r w' ∧ T2 w' A X Y d' e ∧ Kf A w w' := by
  obtain ⟨F, G, h1, h2, h3, h4⟩ := h
  refine (hc F h1 (fun j hj => (h3 j hj).1)).mono ?_
  rintro r w' ⟨hq, p', k⟩
  have hs := k.size
  refine ⟨hq, ⟨cF (nF F w) w', G, p'.clip, h2.keep (fun b hb hlt => k.block b hlt (fun hF => (h3 b hF).2.2 hb)) (fun _ _ h => h), fun j hj => ?_, fun j hj => ?_⟩, k.mono (fun j hj => (h3 j hj).1)⟩
  · obtain ⟨hj1 | hj1, hj2⟩ := hj
    · exact ⟨(h3 j hj1).1, hj2, (h3 j hj1).2.2⟩
    · exact ⟨hA j hj1, hj2, fun hG => by have := (h4 j hG).2; omega⟩
  · have := h4 j hj
    exact ⟨this.1, by omega⟩
/-- A step of the document's disk. -/
theorem T2.stepQ {w : World} {A : Nat → Prop} {X Y : Nat} {d e e' : Dk} {f : Nat} {args : Array Value} {Q : Ending → World → Prop} (h : T2 w A X Y d e) (hA : ∀ j, w.heap.size ≤ j → A j)
    (hc : ∀ G, QD w Y G e → (∀ j, G j → A j) → Calls Try.prog f args w fun r w' => Q r w' ∧ QD w' Y (nF G w) e' ∧ Kf G w w') : Calls Try.prog f args w fun r w' => Q r w' ∧ T2 w' A X Y d e' ∧ Kf A w w' := by
  obtain ⟨F, G, h1, h2, h3, h4⟩ := h
  refine (hc G h2 (fun j hj => (h4 j hj).1)).mono ?_
  rintro r w' ⟨hq, p', k⟩
  have hs := k.size
  refine ⟨hq, ⟨F, cF (nF G w) w', h1.keep (fun b hb hlt => k.block b hlt (fun hG => (h3 b hb).2.2 hG)), p'.clip, fun j hj => ?_, fun j hj => ?_⟩, k.mono (fun j hj => (h4 j hj).1)⟩
  · have := h3 j hj
    refine ⟨this.1, by omega, ?_⟩
    rintro ⟨hG | hG, _⟩
    · exact this.2.2 hG
    · omega
  · obtain ⟨hj1 | hj1, hj2⟩ := hj
    · exact ⟨(h4 j hj1).1, hj2⟩
    · exact ⟨hA j hj1, hj2⟩
/-- A row in blocks that are not in A is left as it is. -/
theorem rd_kf {u w w1 : World} {A F : Nat → Prop} {v : Value} {bs : List Int} (h : Rd u v bs) (hu : Kf A u w) (hA : ∀ j, A j → u.heap.size ≤ j) (hF : ∀ j, F j → A j) (k : Kf F w w1) : Rd w1 v bs := rd_on h ((hu.trans (k.mono hF)).below hA (Nat.le_refl _))
theorem rdI_kf {u w w1 : World} {A F : Nat → Prop} {v : Value} {bs : List Int} (h : RdI u bs v) (hu : Kf A u w) (hA : ∀ j, A j → u.heap.size ≤ j) (hF : ∀ j, F j → A j) (k : Kf F w w1) : RdI w1 bs v := h.on ((hu.trans (k.mono hF)).below hA (Nat.le_refl _))
theorem Bn.kA {w w' : World} {N : Nat} {A : Nat → Prop} {c : Value} {cs : List Value} (h : Bn w N (c :: cs)) (hk : Kf A w w') (hN : ¬ A N) : Bn w' N (c :: cs) := h.blk (hk.block N h.lt hN)

theorem pt_len_of {β : Type} {n : Int} {b s : β} : ∀ {l : List (Int × β)}, Ris l → lk n l = some s → (pt n b l).length = l.length
  | [], _, h => by simp [lk] at h
  | y :: r, hs, h => by
    obtain ⟨h1, h2⟩ := List.pairwise_cons.1 hs
    unfold lk at h
    unfold pt
    by_cases he : y.1 = n
    · rw [if_neg (by omega), if_pos he]
      rfl
    · rw [if_neg he] at h
      have hm := h1 _ (lk_mem h)
      simp only at hm
      rw [if_neg (by omega), if_neg he, List.length_cons, List.length_cons, pt_len_of h2 h]
/-- Bytes as bytes are, and bounds. -/
structure Ok (d : Dk) (n u : Nat) : Prop where
  r : Ris d.L
  s : ∀ x ∈ d.L, x.2.2 ≤ x.2.1.length ∧ (Lit.int .i64 x.1).wf = true
  room : 0 ≤ d.room ∧ d.room ≤ 9223372036854775807
  fuse : -1 ≤ d.fuse ∧ d.fuse ≤ 9223372036854775807
  len : d.L.length ≤ n
  us : usM d.L ≤ u
theorem Ok.mono {d : Dk} {n u n' u' : Nat} (h : Ok d n u) (h1 : n ≤ n') (h2 : u ≤ u') : Ok d n' u' := ⟨h.r, h.s, h.room, h.fuse, Nat.le_trans h.len h1, Nat.le_trans h.us h2⟩
theorem Ok.L {d e : Dk} {n u : Nat} (h : Ok d n u) (h1 : e.L = d.L) (h2 : e.room = d.room) (h3 : -1 ≤ e.fuse ∧ e.fuse ≤ 9223372036854775807) : Ok e n u := by
  constructor
  · rw [h1]; exact h.r
  · rw [h1]; exact h.s
  · rw [h2]; exact h.room
  · exact h3
  · rw [h1]; exact h.len
  · rw [h1]; exact h.us
theorem brn_fuse {d : Dk} (h : -1 ≤ d.fuse ∧ d.fuse ≤ 9223372036854775807) : -1 ≤ (brn d).fuse ∧ (brn d).fuse ≤ 9223372036854775807 := by
  unfold brn
  split
  · exact h
  · split
    · simp only
      omega
    · exact h
theorem Ok.brn {d : Dk} {n u : Nat} (h : Ok d n u) : Ok (brn d) n u := h.L (brn_L d).1 (brn_L d).2 (brn_fuse h.fuse)
theorem ok_new (n : Int) (hn : n ≤ 9223372036854775807) : Ok ⟨[], max n 0, -1, false⟩ 0 0 := ⟨List.Pairwise.nil, fun x hx => absurd hx (by simp), by simp only; omega, by simp, by simp, by simp [usM]⟩
theorem Ok.app {d : Dk} {n u : Nat} (h : Ok d n u) {k : Int} (hk : (Lit.int .i64 k).wf = true) (bs : List Int) : Ok (appD d k bs).1 (n + 1) (u + bs.length) := by
  unfold appD
  split
  · exact h.mono (by omega) (by omega)
  · split
    · exact h.mono (by omega) (by omega)
    · split
      · exact h.mono (by omega) (by omega)
      · split
        · exact h.brn.mono (by omega) (by omega)
        · have h1 := pt_len k (((lk k d.L).getD ([], 0)).1 ++ bs, ((lk k d.L).getD ([], 0)).2) d.L
          have h2 := usM_app (n := k) (bs := bs) h.r (show (lk k d.L).getD ([], 0) = (((lk k d.L).getD ([], 0)).1, ((lk k d.L).getD ([], 0)).2) from rfl)
          have h3 := h.len
          have h4 := h.us
          refine ⟨ris_pt h.r, fun x hx => ?_, by show 0 ≤ (_root_.Go.Proofs.Ytibmbbiipffooaa.brn d).room ∧ (_root_.Go.Proofs.Ytibmbbiipffooaa.brn d).room ≤ _; rw [(brn_L d).2]; exact h.room, brn_fuse h.fuse, by simp only; omega, by simp only; omega⟩
          rcases mem_pt h.r hx with rfl | ⟨hx, _⟩
          · refine ⟨?_, hk⟩
            simp only [List.length_append]
            cases hl : lk k d.L with
            | none => simp
            | some s =>
              have := (h.s _ (lk_mem hl)).1
              simp only at this
              simp only [Option.getD_some]
              omega
          · exact h.s x hx
theorem Ok.syn {d : Dk} {n u : Nat} (h : Ok d n u) {k : Int} (hk : (Lit.int .i64 k).wf = true) : Ok (opM d k (synF d k)).1 n u := by
  unfold opM
  split
  · exact h
  · cases hl : lk k d.L with
    | none => exact h
    | some s =>
      simp only
      split
      · exact h.brn
      · have h2 := usM_syn (k := s.1.length) h.r hl
        have h3 := h.us
        refine ⟨ris_pt h.r, fun x hx => ?_, by show 0 ≤ (_root_.Go.Proofs.Ytibmbbiipffooaa.brn d).room ∧ (_root_.Go.Proofs.Ytibmbbiipffooaa.brn d).room ≤ _; rw [(brn_L d).2]; exact h.room, brn_fuse h.fuse, ?_, by show usM (pt k _ d.L) ≤ u; omega⟩
        · rcases mem_pt h.r hx with rfl | ⟨hx, _⟩
          · exact ⟨Nat.le_refl _, hk⟩
          · exact h.s x hx
        · show (pt k (s.1, s.1.length) d.L).length ≤ n
          rw [pt_len_of h.r hl]
          exact h.len
theorem Ok.drp {d : Dk} {n u : Nat} (h : Ok d n u) (k : Int) : Ok (opM d k (drpF d k)).1 n u := by
  unfold opM
  split
  · exact h
  · cases hl : lk k d.L with
    | none => exact h
    | some s =>
      simp only
      split
      · exact h.brn
      · have h2 := (usM_del h.r hl).1
        have h3 := h.us
        have h4 := dl_len k d.L
        have h5 := h.len
        exact ⟨ris_dl h.r, fun x hx => h.s x (mem_dl.1 hx).1, by show 0 ≤ (_root_.Go.Proofs.Ytibmbbiipffooaa.brn d).room ∧ (_root_.Go.Proofs.Ytibmbbiipffooaa.brn d).room ≤ _; rw [(brn_L d).2]; exact h.room, brn_fuse h.fuse, by show (dl k d.L).length ≤ n; omega, by show usM (dl k d.L) ≤ u; omega⟩
theorem crL_ok {kp : Nat → Int} : ∀ {l : List (Int × Sm)} {i : Nat} {a : Int × Sm}, (∀ x ∈ l, x.2.2 ≤ x.2.1.length) → a ∈ crL kp i l → a.2.2 ≤ a.2.1.length
  | [], i, a, _, h => by simp [crL] at h
  | x :: r, i, a, hs, h => by
    rw [crL_cons] at h
    have hx := kpN_le (kp i) (hs x List.mem_cons_self)
    split at h
    · exact crL_ok (fun y hy => hs y (List.mem_cons_of_mem _ hy)) h
    · rcases List.mem_cons.1 h with rfl | h
      · simp only [List.length_take]
        omega
      · exact crL_ok (fun y hy => hs y (List.mem_cons_of_mem _ hy)) h
theorem Ok.cr {d : Dk} {n u : Nat} (h : Ok d n u) (ls : List Int) : Ok (crD d ls) n u := by
  obtain ⟨h1, h2⟩ := crL_us (kp := kpA ls) 0 (fun x hx => (h.s x hx).1)
  have h3 := h.us
  have h4 := h.len
  refine ⟨crL_ris h.r, fun x hx => ⟨crL_ok (fun x hx => (h.s x hx).1) hx, ?_⟩, h.room, by simp [crD], by show (crL _ _ _).length ≤ n; omega, by show usM (crL _ _ _) ≤ u; omega⟩
  obtain ⟨y, hy, e⟩ := crL_mem hx
  rw [e]
  exact (h.s y hy).2
theorem Ok.spo {d : Dk} {n u : Nat} (h : Ok d n u) {k : Int} (hk : (Lit.int .i64 k).wf = true) (a b : Int) : Ok (spoD d k a b).1 n u := by
  unfold spoD
  split
  · exact h
  · rename_i hc
    cases hl : lk k d.L with
    | none =>
      rw [hl] at hc
      simp only [Option.getD_none, List.length_nil] at hc
      omega
    | some s =>
      simp only [Option.getD_some]
      have h2 := usM_pt k ((s.1.set a.toNat (xrB (s.1.getD a.toNat 0) b)), s.2) h.r
      rw [hl] at h2
      simp only [Option.getD_some, List.length_set] at h2
      have h3 := h.us
      refine ⟨ris_pt h.r, fun x hx => ?_, h.room, h.fuse, ?_, by simp only; omega⟩
      · rcases mem_pt h.r hx with rfl | ⟨hx, _⟩
        · refine ⟨?_, hk⟩
          simp only [List.length_set]
          exact (h.s _ (lk_mem hl)).1
        · exact h.s x hx
      · simp only
        rw [pt_len_of h.r hl]
        exact h.len

/-- What a call leaves. -/
def doD (d : Dk) (x : OpM) : Dk :=
  if x.kind = 1 then (appD d x.a x.bs).1 else if x.kind = 2 then (opM d x.a (synF d x.a)).1 else if x.kind = 3 then (opM d x.a (drpF d x.a)).1
  else if x.kind = 5 then { d with fuse := max x.a (-1) } else if x.kind = 6 then { d with room := max x.a 0 } else if x.kind = 7 then crD d x.ls else if x.kind = 8 then (spoD d x.a x.b x.y).1 else d
theorem wf_in {k : Int} (h : (Lit.int .i64 k).wf = true) : -9223372036854775808 ≤ k ∧ k ≤ 9223372036854775807 := by simpa [Lit.wf, IntKind.min, IntKind.max, IntKind.signed, IntKind.bits] using h
theorem Ok.do {d : Dk} {n u : Nat} (h : Ok d n u) {x : OpM} (hx : WfO x) : Ok (doD d x) (n + 1) (u + x.bs.length) := by
  have hm := fun (e : Dk) (k : Ok e n u) => k.mono (show n ≤ n + 1 by omega) (show u ≤ u + x.bs.length by omega)
  have ha := wf_in hx.a
  unfold doD
  split
  · exact h.app hx.a _
  split
  · exact hm _ (h.syn hx.a)
  split
  · exact hm _ (h.drp _)
  split
  · exact hm _ (h.L rfl rfl (by simp only; omega))
  split
  · exact hm _ ⟨h.r, h.s, by simp only; omega, h.fuse, h.len, h.us⟩
  split
  · exact hm _ (h.cr _)
  split
  · exact hm _ (h.spo hx.a _ _)
  · exact hm _ h
end Go.Proofs.Ytibmbbiipffooaa

/- The document's disk: Spoil. -/
namespace Go.Proofs.Ytibmbbiipffooaa
open Go.RowKit Go.Lib Go.Maps
set_option linter.unusedSimpArgs false
set_option linter.unusedVariables false
attribute [local go_sem ↓] Go.wp_at_zero Go.wp_at_succ

set_option maxRecDepth 100000 in
set_option maxHeartbeats 4000000 in
theorem qspoil_any {w : World} {Y : Nat} {G : Nat → Prop} {d : Dk} {n k y : Int} (h0 : QD w Y G d) (hu : usM d.L ≤ 1000000) :
    Calls Try.prog 28 #[.pointer (some ⟨Y, 0, none⟩), .int .i64 n, .int .i64 k, .int .u8 y] w fun e w' => e = .returned (.bool (spoD d n k y).2) ∧ QD w' Y (nF G w) (spoD d n k y).1 ∧ Kf G w w' := by
  obtain ⟨Lv, E, h⟩ := h0
  have hf := qfind_any h n
  have hw : QD w Y (nF G w) d := ⟨Lv, E, h.keep (fun _ _ _ => rfl) (fun j _ hj => .inl hj)⟩
  obtain ⟨g1, g2, g3, g4⟩ := id h.clip
  have hlk := mmE_lk n E
  rw [g2] at hlk
  unfold spoD
  cases hq : lk n E with
  | none =>
    rw [hq] at hlk
    rw [hlk]
    simp only [Option.map_none, Option.getD_none, List.length_nil]
    rw [if_pos (by omega)]
    rw [fI_no 0 hq] at hf
    clear h g2 g3 g4 hlk hq
    go_enter Try.func28, Try.ntmps28
    go_wp2_with (first
      | (go_at_call 38; refine hf.mono ?_; rintro e w2 ⟨rfl, rfl⟩; clear hf)
      | fail)
    go_ret
    exact ⟨rfl, hw, Kf.refl _ _⟩
  | some s =>
    rw [hq] at hlk
    obtain ⟨sv, sb, sn⟩ := s
    simp only [Option.map_some] at hlk
    rw [hlk]
    simp only [Option.getD_some]
    obtain ⟨i, hi, e1, e2⟩ := fI_at 0 hq
    rw [e1, Nat.zero_add] at hf
    obtain ⟨c0, f0⟩ := g4 0 _ rfl
    obtain ⟨g, cap', e', _, _, hgl, d0, d1, d2⟩ := g3.at hi
    rw [e2] at d1
    obtain ⟨ho, hof⟩ := g3.s _ (List.getElem_mem hi)
    rw [e2] at ho hof d0 d2
    simp only at ho hof d1 d0 d2
    obtain ⟨sa, sc, rfl, hsl, hsm⟩ := slice_form ho
    subst e'
    obtain ⟨ln, hln⟩ : ∃ k, E.length = k := ⟨_, rfl⟩
    have hi2 := hi
    rw [hln] at c0 hi2
    have i3 : ¬ (i : Int) < 0 := by omega
    have i1 : (0 : Int) ≤ (i : Int) := by omega
    have i2 : (i : Int) < (ln : Int) := by omega
    obtain ⟨m, hm⟩ : ∃ k, sb.length = k := ⟨_, rfl⟩
    by_cases hk0 : k < 0
    · rw [if_pos (.inl hk0)]
      clear h g2 g3 g4 hlk hq e1 e2 ho hof hln
      go_enter Try.func28, Try.ntmps28
      go_wp2_with (first
        | (go_at_call 38; refine hf.mono ?_; rintro e w2 ⟨rfl, rfl⟩; clear hf)
        | fail)
      go_ret
      exact ⟨rfl, hw, Kf.refl _ _⟩
    by_cases hk1 : k ≥ (sb.length : Int)
    · rw [if_pos (.inr hk1)]
      clear h g2 g3 g4 hlk hq e1 e2 ho hof hln hm
      go_enter Try.func28, Try.ntmps28
      go_wp2_with (first
        | (go_at_call 38; refine hf.mono ?_; rintro e w2 ⟨rfl, rfl⟩; clear hf)
        | fail)
      go_ret
      exact ⟨rfl, hw, Kf.refl _ _⟩
    rw [if_neg (by omega)]
    obtain ⟨p, rfl⟩ : ∃ p : Nat, k = (p : Int) := ⟨k.toNat, by omega⟩
    rw [Int.toNat_natCast]
    have hp : p < sb.length := by omega
    have hus := usM_lk hlk
    simp only at hus
    obtain ⟨B, hB⟩ : ∃ B, sb.getD p 0 = B := ⟨_, rfl⟩
    rw [hB]
    obtain ⟨D, hD⟩ : ∃ D : Dk, { d with L := pt n (sb.set p (xrB B y), sn) d.L } = D := ⟨_, rfl⟩
    rw [hD]
    have HD := hideD hD
    have hal : Below w.heap.size w (w.alloc (.cells #[] 5)) := (Below.refl _ _).alloc (Nat.le_refl _) _
    have hown : (w.alloc (.cells #[] 5)).ownsRow w.heap.size 5 1 (.slice (some ⟨w.heap.size, 0, none⟩) 0 0) 0 [] := World.ownsRow_made w #[] 0 (Nat.le_refl _) (Nat.zero_le _) rfl
    have hR := rd_on ho.rd hal
    have hsrc := hR.src (t := 30) (e := 5) Try.underlying30
    rw [hm] at hsrc
    have D1 := (hal.cell (p := ⟨g, i * 3 + 1, none⟩) hgl).trans d1
    have C0 := (hal.cell (p := ⟨Y, 0, none⟩) g4.lt).trans c0
    rw [hm] at d1 D1
    have hml : m ≤ 1000000 := by omega
    obtain ⟨i0, hi0, hz0, hz1, hz2⟩ := u8_inf
    have hgY := (g3.oo g rfl).2
    have hgw := (g3.oo g rfl).1.2
    have hYw := g1.2
    -- behind the append
    have hfin : ∀ (vb : Value) (wb : World), wb.ownsRow w.heap.size 5 1 vb m (sb.map (Value.int .u8)) → Below w.heap.size w wb → ∃ h cap2, vb = .slice (some ⟨h, 0, none⟩) m cap2 ∧ (m : Int) ≤ (cap2 : Int) ∧
        wb.cell? ⟨h, p, none⟩ = some (.int .u8 B) ∧ wb.frozen? ⟨h, p, none⟩ = false ∧ (wb.setCell ⟨h, p, none⟩ (.int .u8 (xrB B y))).cell? ⟨Y, 0, none⟩ = some (.slice (some ⟨g, 0, none⟩) ln cap') ∧
        (∃ u, (wb.setCell ⟨h, p, none⟩ (.int .u8 (xrB B y))).cell? ⟨g, i * 3 + 1, none⟩ = some u) ∧ (wb.setCell ⟨h, p, none⟩ (.int .u8 (xrB B y))).frozen? ⟨g, i * 3 + 1, none⟩ = false ∧
        QD ((wb.setCell ⟨h, p, none⟩ (.int .u8 (xrB B y))).setCell ⟨g, i * 3 + 1, none⟩ (.slice (some ⟨h, 0, none⟩) m cap2)) Y (nF G w) D ∧ Kf G w ((wb.setCell ⟨h, p, none⟩ (.int .u8 (xrB B y))).setCell ⟨g, i * 3 + 1, none⟩ (.slice (some ⟨h, 0, none⟩) m cap2)) := fun vb wb hO hb => by
      rcases hO.2 with ⟨_, e⟩ | ⟨q, cap2, cur, rfl, hq1, hq2, hq3, hq4, _⟩
      · omega
      have hql := (World.ownsRow.lt hO q rfl)
      have hc := World.ownsRow.cells hO (g := q) rfl p (.int .u8 B) (by rw [← hB]; simp [List.getD, hp])
      rw [add_plain, Nat.zero_add] at hc
      have hst := (World.ownsRow.stored hO p (.int .u8 (xrB B y))).1
      have hQb : QDE (wb.setCell ⟨q, p, none⟩ (.int .u8 (xrB B y))) Y (cF G w) d (.slice (some ⟨g, 0, none⟩) E.length cap') E := QDE.keep (w := w) ⟨g1, g2, g3, g4⟩ (fun b hb' _ => by
        rw [Below.heap_setCell _ _ _ _ (fun e => by have := hb'.2; have : b = q := e; omega)]
        exact hb.block b hb'.2) (fun _ _ h => h)
      obtain ⟨r1, r2, r3, r4⟩ := hQb
      have hst2 := (World.ownsRow.stored r3.o (i * 3 + 1) (.slice (some ⟨q, 0, none⟩) m cap2)).1
      rw [celE_set1 hi _ (sb.set p (xrB B y)), e2] at hst2
      simp only at hst2
      obtain ⟨i', hi', f1, f2, f3⟩ := pt_set (c := (.slice (some ⟨q, 0, none⟩) m cap2, sb.set p (xrB B y), sn)) r3.r hq
      have hii : i' = i := by rw [f1] at e1; omega
      subst hii
      rw [← f3] at hst2
      have hlen : (pt n (Value.slice (some ⟨q, 0, none⟩) m cap2, sb.set p (xrB B y), sn) E).length = E.length := by rw [f3, List.length_set]
      refine ⟨q, cap2, rfl, by omega, hc, World.ownsRow.frozenAt hO p, ?_, ⟨_, (cell_far4 (by omega) ((hb.cell (p := ⟨g, i' * 3 + 1, none⟩) hgw).trans d1))⟩, World.ownsRow.frozenAt r3.o _, ⟨_, _, .inl r1.1, ?_, r3.upd rfl (by rw [hlen]; exact hst2) (ris_pt r3.r) (fun x hx => ?_) (fun j _ hj => .inl hj.1), ?_⟩, ?_⟩
      · rw [← hln]
        exact (r4 0 _ rfl).1
      · rw [mmE_pt, g2, ← HD.out]
      · rcases mem_pt r3.r hx with rfl | ⟨hx, _⟩
        · refine .inr ⟨?_, fun z hz => ?_⟩
          · unfold Own
            rw [List.length_set, hm, List.map_set]
            exact ⟨hst.1, hst.2.imp id (fun ⟨a, b, c, e1, e2, e3⟩ => ⟨a, b, c, e1, Nat.zero_le _, e3⟩)⟩
          · have : z = q := (Option.some.inj hz).symm
            subst this
            exact ⟨.inr (by omega), by omega, by omega⟩
        · exact .inl hx
      · rw [← HD.out]
        exact r4.far hgY (i := i' * 3 + 1) _
      · exact ((Kf.of hb (Nat.le_refl _)).setNew (by omega) _).set (g3.oo g rfl).1.1 _
    have HF := hideD hfin
    have hpm : p < m := by omega
    have j1 : ¬ (p : Int) < 0 := by omega
    have j2 : ¬ (p : Int) ≥ (m : Int) := by omega
    have j3 : (0 : Int) ≤ (p : Int) := by omega
    have j4 : (p : Int) < (m : Int) := by omega
    rw [hm] at hsl
    clear h g2 g3 g4 hlk hq e1 e2 ho hof hln hm hfin hR hus hw hD hk0 hk1 hp
    go_enter Try.func28, Try.ntmps28
    go_wp2_with (first
      | (go_at_call 38; refine hf.mono ?_; rintro e w2 ⟨rfl, rfl⟩; clear hf)
      | (at_builtin; refine wpList_append_at _ rfl _ _ 30 30 rfl w.heap.size 5 i0 (.int .u8 0) 1 1 Try.underlying30 hi0 hz0 hz1 hz2 rfl _ 0 _ rfl hown _ _ _ rfl hsrc m (.inr (by omega)) (Nat.le_refl _) (by unfold maxLen; omega) (by simp) ?_; intro vb wb hOb hgb hat; clear hown hsrc; rw [Nat.zero_add, List.nil_append] at hOb; obtain ⟨q, cap2, rfl, l1, l2, l3, l4, ⟨u, l5⟩, l6, HZ⟩ := HF.out vb wb hOb (hal.grown hgb (by simp) (fun k hk => by have : w.heap.size = k := Option.some.inj hk; omega)); have HZ := hideD HZ; unfold xrB at l4 l5 l6; clear hOb hgb hat)
      | fail)
    go_ret
    exact ⟨rfl, HZ.out⟩

theorem cell_dw {w : World} {p : Addr} {v : Value} (h : w.cell? p = some v) : w.drew.cell? p = some v := h
theorem T2.drew {w : World} {A : Nat → Prop} {X Y : Nat} {d e : Dk} (h : T2 w A X Y d e) : T2 w.drew A X Y d e := h.keep (Nat.le_refl _) (fun _ _ _ => rfl) (fun _ _ h => h)
/-- What the law's Do stands on: the disks, the call as it lies, the world w1 behind its copy in block N. -/
structure Dos (w0 w : World) (A : Nat → Prop) (X Y : Nat) (d : Dk) (x : OpM) (bv lv : Value) : Prop where
  t : T2 w A X Y d d
  ok : Ok d 1000 500000
  a1 : ∀ j, w.heap.size ≤ j → A j
  a0 : ∀ j, A j → w0.heap.size ≤ j
  k : Kf A w0 w
  bs : Rd w0 bv x.bs
  ls : RdI w0 x.ls lv
  wf : WfO x
  bl : x.bs.length ≤ 50000
  ll : x.ls.length ≤ 100
theorem T2.back {w : World} {A : Nat → Prop} {X Y N : Nat} {d e : Dk} (h : T2 w (fun j => A j ∧ j ≠ N) X Y d e) : T2 w A X Y d e := h.keep (Nat.le_refl _) (fun _ _ _ => rfl) (fun _ _ h => h.1)
theorem Kf.back {w w1 w' : World} {A : Nat → Prop} {N : Nat} (h : Kf (fun j => A j ∧ j ≠ N) w1 w') (ha : Below w.heap.size w w1) : Kf A w w' := (Kf.of ha (Nat.le_refl _)).trans (h.mono (fun j hj => hj.1))
section
variable {w0 w W : World} {A : Nat → Prop} {X Y N : Nat} {d d' e : Dk} {x : OpM} {bv lv : Value}
theorem t2_app (h : T2 W A X Y d e) (ok : Ok d 1000 500000) (hA : ∀ j, W.heap.size ≤ j → A j) (hx : (Lit.int .i64 x.a).wf = true) (hb : x.bs.length ≤ 50000) (hv : ∀ F w1, (∀ j, F j → A j) → Kf F W w1 → Rd w1 bv x.bs) :
    Calls Try.prog 16 #[.pointer (some ⟨X, 0, none⟩), .int .i64 x.a, bv] W fun r w' => r = .returned (.int .i64 (appD d x.a x.bs).2) ∧ T2 w' A X Y (appD d x.a x.bs).1 e ∧ Kf A W w' :=
  h.stepP (Q := fun r _ => r = .returned (.int .i64 (appD d x.a x.bs).2)) hA (fun F hp hF => dapp_any hp ok.fuse.2 ok.room hx (by have := ok.len; omega) (by have := ok.us; omega) (by omega) (fun w1 k => hv F w1 hF k))
theorem t2_appq (h : T2 W A X Y e d) (ok : Ok d 1000 500000) (hA : ∀ j, W.heap.size ≤ j → A j) (hb : x.bs.length ≤ 50000) (hv : ∀ F w1, (∀ j, F j → A j) → Kf F W w1 → Rd w1 bv x.bs) :
    Calls Try.prog 18 #[.pointer (some ⟨Y, 0, none⟩), .int .i64 x.a, bv] W fun r w' => r = .returned (.int .i64 (appD d x.a x.bs).2) ∧ T2 w' A X Y e (appD d x.a x.bs).1 ∧ Kf A W w' :=
  h.stepQ (Q := fun r _ => r = .returned (.int .i64 (appD d x.a x.bs).2)) hA (fun F hp hF => qapp_any hp ok.fuse.2 ok.room (by have := ok.len; omega) (by have := ok.us; omega) (by omega) (fun w1 k => hv F w1 hF k))
theorem t2_syn (h : T2 W A X Y d e) (ok : Ok d 1000 500000) (hA : ∀ j, W.heap.size ≤ j → A j) {n : Int} (hx : (Lit.int .i64 n).wf = true) :
    Calls Try.prog 19 #[.pointer (some ⟨X, 0, none⟩), .int .i64 n] W fun r w' => r = .returned (.int .i64 (opM d n (synF d n)).2) ∧ T2 w' A X Y (opM d n (synF d n)).1 e ∧ Kf A W w' :=
  h.stepP (Q := fun r _ => r = .returned (.int .i64 (opM d n (synF d n)).2)) hA (fun F hp hF => dsync_any hp ok.fuse.2 hx (by have := ok.len; omega))
theorem t2_synq (h : T2 W A X Y e d) (ok : Ok d 1000 500000) (hA : ∀ j, W.heap.size ≤ j → A j) {n : Int} :
    Calls Try.prog 20 #[.pointer (some ⟨Y, 0, none⟩), .int .i64 n] W fun r w' => r = .returned (.int .i64 (opM d n (synF d n)).2) ∧ T2 w' A X Y e (opM d n (synF d n)).1 ∧ Kf A W w' :=
  h.stepQ (Q := fun r _ => r = .returned (.int .i64 (opM d n (synF d n)).2)) hA (fun F hp hF => qsync_any hp ok.fuse.2)
theorem t2_drp (h : T2 W A X Y d e) (ok : Ok d 1000 500000) (hA : ∀ j, W.heap.size ≤ j → A j) {n : Int} (hx : (Lit.int .i64 n).wf = true) :
    Calls Try.prog 21 #[.pointer (some ⟨X, 0, none⟩), .int .i64 n] W fun r w' => r = .returned (.int .i64 (opM d n (drpF d n)).2) ∧ T2 w' A X Y (opM d n (drpF d n)).1 e ∧ Kf A W w' :=
  h.stepP (Q := fun r _ => r = .returned (.int .i64 (opM d n (drpF d n)).2)) hA (fun F hp hF => ddrop_any hp ok.fuse.2 hx (by have := ok.us; omega))
theorem t2_drpq (h : T2 W A X Y e d) (ok : Ok d 1000 500000) (hA : ∀ j, W.heap.size ≤ j → A j) {n : Int} :
    Calls Try.prog 22 #[.pointer (some ⟨Y, 0, none⟩), .int .i64 n] W fun r w' => r = .returned (.int .i64 (opM d n (drpF d n)).2) ∧ T2 w' A X Y e (opM d n (drpF d n)).1 ∧ Kf A W w' :=
  h.stepQ (Q := fun r _ => r = .returned (.int .i64 (opM d n (drpF d n)).2)) hA (fun F hp hF => qdrop_any hp ok.fuse.2 (by have := ok.len; omega))
theorem t2_cr (h : T2 W A X Y d e) (ok : Ok d 1000 500000) (hA : ∀ j, W.heap.size ≤ j → A j) {ls : List Int} (hb : ls.length ≤ 100) (hv : ∀ F w1, (∀ j, F j → A j) → Kf F W w1 → RdI w1 ls lv) :
    Calls Try.prog 14 #[.pointer (some ⟨X, 0, none⟩), lv] W fun r w' => r = .returned (.tuple #[]) ∧ T2 w' A X Y (crD d ls) e ∧ Kf A W w' :=
  h.stepP (Q := fun r _ => r = .returned (.tuple #[])) hA (fun F hp hF => dcrash_any hp ok.s (by have := ok.us; omega) (by have := ok.len; omega) (by omega) (fun w1 k => hv F w1 hF k))
theorem t2_crq (h : T2 W A X Y e d) (ok : Ok d 1000 500000) (hA : ∀ j, W.heap.size ≤ j → A j) {ls : List Int} (hb : ls.length ≤ 100) (hv : ∀ F w1, (∀ j, F j → A j) → Kf F W w1 → RdI w1 ls lv) :
    Calls Try.prog 26 #[.pointer (some ⟨Y, 0, none⟩), lv] W fun r w' => r = .returned (.tuple #[]) ∧ T2 w' A X Y e (crD d ls) ∧ Kf A W w' :=
  h.stepQ (Q := fun r _ => r = .returned (.tuple #[])) hA (fun F hp hF => qcrash_any hp (fun x hx => (ok.s x hx).1) (by have := ok.us; omega) (by have := ok.len; omega) (by omega) (fun w1 k => hv F w1 hF k))
theorem t2_spo (h : T2 W A X Y d e) (hA : ∀ j, W.heap.size ≤ j → A j) {n a b : Int} (hx : (Lit.int .i64 n).wf = true) :
    Calls Try.prog 27 #[.pointer (some ⟨X, 0, none⟩), .int .i64 n, .int .i64 a, .int .u8 b] W fun r w' => r = .returned (.bool (spoD d n a b).2) ∧ T2 w' A X Y (spoD d n a b).1 e ∧ Kf A W w' :=
  h.stepP (Q := fun r _ => r = .returned (.bool (spoD d n a b).2)) hA (fun F hp hF => dspoil_any hp hx)
theorem t2_spoq (h : T2 W A X Y e d) (ok : Ok d 1000 500000) (hA : ∀ j, W.heap.size ≤ j → A j) {n a b : Int} :
    Calls Try.prog 28 #[.pointer (some ⟨Y, 0, none⟩), .int .i64 n, .int .i64 a, .int .u8 b] W fun r w' => r = .returned (.bool (spoD d n a b).2) ∧ T2 w' A X Y e (spoD d n a b).1 ∧ Kf A W w' :=
  h.stepQ (Q := fun r _ => r = .returned (.bool (spoD d n a b).2)) hA (fun F hp hF => qspoil_any hp (by have := ok.us; omega))
end
set_option maxRecDepth 100000 in
set_option maxHeartbeats 4000000 in
theorem ldo_1 {w0 w : World} {A : Nat → Prop} {X Y : Nat} {d : Dk} {x : OpM} {bv lv : Value} (h : Dos w0 w A X Y d x bv lv) (hK : x.kind = 1) :
    Calls Try.prog 9 #[.pointer (some ⟨X, 0, none⟩), .pointer (some ⟨Y, 0, none⟩), .agg #[.int .i64 x.kind, .int .i64 x.a, .int .i64 x.b, .int .u8 x.y, bv, lv]] w fun e w' => e = .returned (.bool true) ∧ T2 w' A X Y (appD d x.a x.bs).1 (appD d x.a x.bs).1 ∧ Kf A w w' := by
  obtain ⟨K, a, b, y, bs, ls⟩ := x
  obtain ⟨ht, hok, a1, a0, hk0, hbs, hls, hwf, hbl, hll⟩ := h
  simp only at hK hbs hls hbl hll ⊢
  subst hK
  have hax := hwf.a
  simp only at hax
  obtain ⟨ba, bc, rfl, _⟩ := id hbs
  obtain ⟨la, lc, rfl, _⟩ := hls.form
  obtain ⟨nb, hnb⟩ : ∃ k, bs.length = k := ⟨_, rfl⟩
  obtain ⟨nl, hnl⟩ : ∃ k, ls.length = k := ⟨_, rfl⟩
  have hal : Below w.heap.size w (w.alloc (.cells #[.int .i64 1, .int .i64 a, .int .i64 b, .int .u8 y, .slice ba nb bc, .slice la nl lc] 33)) := (Below.refl _ _).alloc (Nat.le_refl _) _
  have hb : Bn (w.alloc (.cells #[.int .i64 1, .int .i64 a, .int .i64 b, .int .u8 y, .slice ba nb bc, .slice la nl lc] 33)) w.heap.size [.int .i64 1, .int .i64 a, .int .i64 b, .int .u8 y, .slice ba nb bc, .slice la nl lc] := Bn.new w [.int .i64 1, .int .i64 a, .int .i64 b, .int .u8 y, .slice ba nb bc, .slice la nl lc] _ _ rfl
  have hsz : (w.alloc (.cells #[.int .i64 1, .int .i64 a, .int .i64 b, .int .u8 y, .slice ba nb bc, .slice la nl lc] 33)).heap.size = w.heap.size + 1 := by simp
  rw [hnb] at hbs
  rw [hnl] at hls
  rw [hnb, hnl]
  have ht1 := (ht.but (Nat.le_refl w.heap.size)).on hal
  have hNA : ¬ (fun j => A j ∧ j ≠ w.heap.size) w.heap.size := fun h => h.2 rfl
  have hk1 : Kf A w0 (w.alloc (.cells #[.int .i64 1, .int .i64 a, .int .i64 b, .int .u8 y, .slice ba nb bc, .slice la nl lc] 33)) := hk0.alloc _
  obtain ⟨w1, hw1⟩ : ∃ k, w.alloc (.cells #[.int .i64 1, .int .i64 a, .int .i64 b, .int .u8 y, .slice ba nb bc, .slice la nl lc] 33) = k := ⟨_, rfl⟩
  rw [hw1] at hal hb hsz ht1 hk1
  have HW1 := hideD hw1
  clear hw1
  have hA' : ∀ W, Kf (fun j => A j ∧ j ≠ w.heap.size) w1 W → ∀ j, W.heap.size ≤ j → (fun j => A j ∧ j ≠ w.heap.size) j := fun W k j hj => by
    have := k.size
    exact ⟨a1 j (by omega), by omega⟩
  have hv : ∀ W, Kf (fun j => A j ∧ j ≠ w.heap.size) w1 W → ∀ F w2, (∀ j, F j → (fun j => A j ∧ j ≠ w.heap.size) j) → Kf F W w2 → Rd w2 (.slice ba nb bc) bs := fun W k F w2 hF k2 => rd_kf hbs (hk1.trans (k.mono (fun j hj => hj.1))) a0 (fun j hj => (hF j hj).1) k2
  have hP : ∀ W, T2 W (fun j => A j ∧ j ≠ w.heap.size) X Y d d → Kf (fun j => A j ∧ j ≠ w.heap.size) w1 W → Calls Try.prog 16 #[.pointer (some ⟨X, 0, none⟩), .int .i64 a, .slice ba nb bc] W fun r w' => r = .returned (.int .i64 (appD d a bs).2) ∧ T2 w' (fun j => A j ∧ j ≠ w.heap.size) X Y (appD d a bs).1 d ∧ Kf (fun j => A j ∧ j ≠ w.heap.size) w1 w' := fun W t k => (t2_app (x := ⟨1, a, b, y, bs, ls⟩) t hok (hA' W k) hax hbl (hv W k)).mono (fun r w' hh => ⟨hh.1, hh.2.1, k.trans hh.2.2⟩)
  have hQ : ∀ W, T2 W (fun j => A j ∧ j ≠ w.heap.size) X Y (appD d a bs).1 d → Kf (fun j => A j ∧ j ≠ w.heap.size) w1 W → Calls Try.prog 18 #[.pointer (some ⟨Y, 0, none⟩), .int .i64 a, .slice ba nb bc] W fun r w' => r = .returned (.int .i64 (appD d a bs).2) ∧ T2 w' (fun j => A j ∧ j ≠ w.heap.size) X Y (appD d a bs).1 (appD d a bs).1 ∧ Kf (fun j => A j ∧ j ≠ w.heap.size) w1 w' := fun W t k => (t2_appq (x := ⟨1, a, b, y, bs, ls⟩) t hok (hA' W k) hbl (hv W k)).mono (fun r w' hh => ⟨hh.1, hh.2.1, k.trans hh.2.2⟩)
  obtain ⟨d1, hd1⟩ : ∃ k, (appD d a bs).1 = k := ⟨_, rfl⟩
  rw [hd1] at hP hQ ⊢
  obtain ⟨r1, hr1⟩ : ∃ k, (appD d a bs).2 = k := ⟨_, rfl⟩
  rw [hr1] at hP hQ
  clear hr1
  clear hd1 hv hA' hok hk1 hk0 hbs hls hwf hax ht
  have hb2 := hb
  obtain ⟨y1, _⟩ := hb2 1 _ rfl; obtain ⟨y4, _⟩ := hb2 4 _ rfl
  have hk : Kf (fun j => A j ∧ j ≠ w.heap.size) w1 w1 := Kf.refl _ _
  obtain ⟨y00, _⟩ := hb 0 _ rfl
  go_enter Try.func9, Try.ntmps9
  go_upto_region 1 with fail
  rw [HW1.out]
  clear HW1
  go_upto_region 3 with fail
  clear y00
  go_region_held_law (fun w' => w'.cell? ⟨w.heap.size, 1, none⟩ = some (.int .i64 a) ∧ w'.cell? ⟨w.heap.size, 4, none⟩ = some (.slice ba nb bc))
    ((refine ⟨?_, ?_⟩ <;> (repeat (first | (with_reducible exact y1) | (with_reducible exact y4) | (with_reducible refine cell_dw ?_))) <;> done))
    (first
      | (go_at_call 16; (first | (with_reducible refine (hP _ ht1 hk).mono ?_) | (with_reducible refine (hP _ ht1.drew hk.drew).mono ?_)); rintro e w2 ⟨rfl, ht2, hk⟩; have hb2 := hb.kA hk hNA; obtain ⟨y1, _⟩ := hb2 1 _ rfl; obtain ⟨y4, _⟩ := hb2 4 _ rfl)
      | (go_at_call 18; (first | (with_reducible refine (hQ _ ht2 hk).mono ?_) | (with_reducible refine (hQ _ ht2.drew hk.drew).mono ?_)); rintro e w3 ⟨rfl, ht3, hk⟩; have hb2 := hb.kA hk hNA; obtain ⟨y1, _⟩ := hb2 1 _ rfl; obtain ⟨y4, _⟩ := hb2 4 _ rfl)
      | fail)
  all_goals (
    go_wp2
    go_ret
    exact ⟨rfl, ht3.back, Kf.back hk hal⟩)
set_option maxRecDepth 100000 in
set_option maxHeartbeats 4000000 in
theorem ldo_2 {w0 w : World} {A : Nat → Prop} {X Y : Nat} {d : Dk} {x : OpM} {bv lv : Value} (h : Dos w0 w A X Y d x bv lv) (hK : x.kind = 2) :
    Calls Try.prog 9 #[.pointer (some ⟨X, 0, none⟩), .pointer (some ⟨Y, 0, none⟩), .agg #[.int .i64 x.kind, .int .i64 x.a, .int .i64 x.b, .int .u8 x.y, bv, lv]] w fun e w' => e = .returned (.bool true) ∧ T2 w' A X Y (opM d x.a (synF d x.a)).1 (opM d x.a (synF d x.a)).1 ∧ Kf A w w' := by
  obtain ⟨K, a, b, y, bs, ls⟩ := x
  obtain ⟨ht, hok, a1, a0, hk0, hbs, hls, hwf, hbl, hll⟩ := h
  simp only at hK hbs hls hbl hll ⊢
  subst hK
  have hax := hwf.a
  simp only at hax
  obtain ⟨ba, bc, rfl, _⟩ := id hbs
  obtain ⟨la, lc, rfl, _⟩ := hls.form
  obtain ⟨nb, hnb⟩ : ∃ k, bs.length = k := ⟨_, rfl⟩
  obtain ⟨nl, hnl⟩ : ∃ k, ls.length = k := ⟨_, rfl⟩
  have hal : Below w.heap.size w (w.alloc (.cells #[.int .i64 2, .int .i64 a, .int .i64 b, .int .u8 y, .slice ba nb bc, .slice la nl lc] 33)) := (Below.refl _ _).alloc (Nat.le_refl _) _
  have hb : Bn (w.alloc (.cells #[.int .i64 2, .int .i64 a, .int .i64 b, .int .u8 y, .slice ba nb bc, .slice la nl lc] 33)) w.heap.size [.int .i64 2, .int .i64 a, .int .i64 b, .int .u8 y, .slice ba nb bc, .slice la nl lc] := Bn.new w [.int .i64 2, .int .i64 a, .int .i64 b, .int .u8 y, .slice ba nb bc, .slice la nl lc] _ _ rfl
  have hsz : (w.alloc (.cells #[.int .i64 2, .int .i64 a, .int .i64 b, .int .u8 y, .slice ba nb bc, .slice la nl lc] 33)).heap.size = w.heap.size + 1 := by simp
  rw [hnb] at hbs
  rw [hnl] at hls
  rw [hnb, hnl]
  have ht1 := (ht.but (Nat.le_refl w.heap.size)).on hal
  have hNA : ¬ (fun j => A j ∧ j ≠ w.heap.size) w.heap.size := fun h => h.2 rfl
  have hk1 : Kf A w0 (w.alloc (.cells #[.int .i64 2, .int .i64 a, .int .i64 b, .int .u8 y, .slice ba nb bc, .slice la nl lc] 33)) := hk0.alloc _
  obtain ⟨w1, hw1⟩ : ∃ k, w.alloc (.cells #[.int .i64 2, .int .i64 a, .int .i64 b, .int .u8 y, .slice ba nb bc, .slice la nl lc] 33) = k := ⟨_, rfl⟩
  rw [hw1] at hal hb hsz ht1 hk1
  have HW1 := hideD hw1
  clear hw1
  have hA' : ∀ W, Kf (fun j => A j ∧ j ≠ w.heap.size) w1 W → ∀ j, W.heap.size ≤ j → (fun j => A j ∧ j ≠ w.heap.size) j := fun W k j hj => by
    have := k.size
    exact ⟨a1 j (by omega), by omega⟩
  have hP : ∀ W, T2 W (fun j => A j ∧ j ≠ w.heap.size) X Y d d → Kf (fun j => A j ∧ j ≠ w.heap.size) w1 W → Calls Try.prog 19 #[.pointer (some ⟨X, 0, none⟩), .int .i64 a] W fun r w' => r = .returned (.int .i64 (opM d a (synF d a)).2) ∧ T2 w' (fun j => A j ∧ j ≠ w.heap.size) X Y (opM d a (synF d a)).1 d ∧ Kf (fun j => A j ∧ j ≠ w.heap.size) w1 w' := fun W t k => (t2_syn t hok (hA' W k) hax).mono (fun r w' hh => ⟨hh.1, hh.2.1, k.trans hh.2.2⟩)
  have hQ : ∀ W, T2 W (fun j => A j ∧ j ≠ w.heap.size) X Y (opM d a (synF d a)).1 d → Kf (fun j => A j ∧ j ≠ w.heap.size) w1 W → Calls Try.prog 20 #[.pointer (some ⟨Y, 0, none⟩), .int .i64 a] W fun r w' => r = .returned (.int .i64 (opM d a (synF d a)).2) ∧ T2 w' (fun j => A j ∧ j ≠ w.heap.size) X Y (opM d a (synF d a)).1 (opM d a (synF d a)).1 ∧ Kf (fun j => A j ∧ j ≠ w.heap.size) w1 w' := fun W t k => (t2_synq t hok (hA' W k)).mono (fun r w' hh => ⟨hh.1, hh.2.1, k.trans hh.2.2⟩)
  obtain ⟨d1, hd1⟩ : ∃ k, (opM d a (synF d a)).1 = k := ⟨_, rfl⟩
  rw [hd1] at hP hQ ⊢
  obtain ⟨r1, hr1⟩ : ∃ k, (opM d a (synF d a)).2 = k := ⟨_, rfl⟩
  rw [hr1] at hP hQ
  clear hr1
  clear hd1 hA' hok hk1 hk0 hbs hls hwf hax ht
  have hb2 := hb
  obtain ⟨y1, _⟩ := hb2 1 _ rfl
  have hk : Kf (fun j => A j ∧ j ≠ w.heap.size) w1 w1 := Kf.refl _ _
  obtain ⟨y00, _⟩ := hb 0 _ rfl
  go_enter Try.func9, Try.ntmps9
  go_upto_region 1 with fail
  rw [HW1.out]
  clear HW1
  go_upto_region 5 with fail
  clear y00
  go_region_held_law (fun w' => w'.cell? ⟨w.heap.size, 1, none⟩ = some (.int .i64 a))
    ((skip <;> (repeat (first | (with_reducible exact y1) | (with_reducible refine cell_dw ?_))) <;> done))
    (first
      | (go_at_call 19; (first | (with_reducible refine (hP _ ht1 hk).mono ?_) | (with_reducible refine (hP _ ht1.drew hk.drew).mono ?_)); rintro e w2 ⟨rfl, ht2, hk⟩; have hb2 := hb.kA hk hNA; obtain ⟨y1, _⟩ := hb2 1 _ rfl)
      | (go_at_call 20; (first | (with_reducible refine (hQ _ ht2 hk).mono ?_) | (with_reducible refine (hQ _ ht2.drew hk.drew).mono ?_)); rintro e w3 ⟨rfl, ht3, hk⟩; have hb2 := hb.kA hk hNA; obtain ⟨y1, _⟩ := hb2 1 _ rfl)
      | fail)
  all_goals (
    go_wp2
    go_ret
    exact ⟨rfl, ht3.back, Kf.back hk hal⟩)
set_option maxRecDepth 100000 in
set_option maxHeartbeats 4000000 in
theorem ldo_3 {w0 w : World} {A : Nat → Prop} {X Y : Nat} {d : Dk} {x : OpM} {bv lv : Value} (h : Dos w0 w A X Y d x bv lv) (hK : x.kind = 3) :
    Calls Try.prog 9 #[.pointer (some ⟨X, 0, none⟩), .pointer (some ⟨Y, 0, none⟩), .agg #[.int .i64 x.kind, .int .i64 x.a, .int .i64 x.b, .int .u8 x.y, bv, lv]] w fun e w' => e = .returned (.bool true) ∧ T2 w' A X Y (opM d x.a (drpF d x.a)).1 (opM d x.a (drpF d x.a)).1 ∧ Kf A w w' := by
  obtain ⟨K, a, b, y, bs, ls⟩ := x
  obtain ⟨ht, hok, a1, a0, hk0, hbs, hls, hwf, hbl, hll⟩ := h
  simp only at hK hbs hls hbl hll ⊢
  subst hK
  have hax := hwf.a
  simp only at hax
  obtain ⟨ba, bc, rfl, _⟩ := id hbs
  obtain ⟨la, lc, rfl, _⟩ := hls.form
  obtain ⟨nb, hnb⟩ : ∃ k, bs.length = k := ⟨_, rfl⟩
  obtain ⟨nl, hnl⟩ : ∃ k, ls.length = k := ⟨_, rfl⟩
  have hal : Below w.heap.size w (w.alloc (.cells #[.int .i64 3, .int .i64 a, .int .i64 b, .int .u8 y, .slice ba nb bc, .slice la nl lc] 33)) := (Below.refl _ _).alloc (Nat.le_refl _) _
  have hb : Bn (w.alloc (.cells #[.int .i64 3, .int .i64 a, .int .i64 b, .int .u8 y, .slice ba nb bc, .slice la nl lc] 33)) w.heap.size [.int .i64 3, .int .i64 a, .int .i64 b, .int .u8 y, .slice ba nb bc, .slice la nl lc] := Bn.new w [.int .i64 3, .int .i64 a, .int .i64 b, .int .u8 y, .slice ba nb bc, .slice la nl lc] _ _ rfl
  have hsz : (w.alloc (.cells #[.int .i64 3, .int .i64 a, .int .i64 b, .int .u8 y, .slice ba nb bc, .slice la nl lc] 33)).heap.size = w.heap.size + 1 := by simp
  rw [hnb] at hbs
  rw [hnl] at hls
  rw [hnb, hnl]
  have ht1 := (ht.but (Nat.le_refl w.heap.size)).on hal
  have hNA : ¬ (fun j => A j ∧ j ≠ w.heap.size) w.heap.size := fun h => h.2 rfl
  have hk1 : Kf A w0 (w.alloc (.cells #[.int .i64 3, .int .i64 a, .int .i64 b, .int .u8 y, .slice ba nb bc, .slice la nl lc] 33)) := hk0.alloc _
  obtain ⟨w1, hw1⟩ : ∃ k, w.alloc (.cells #[.int .i64 3, .int .i64 a, .int .i64 b, .int .u8 y, .slice ba nb bc, .slice la nl lc] 33) = k := ⟨_, rfl⟩
  rw [hw1] at hal hb hsz ht1 hk1
  have HW1 := hideD hw1
  clear hw1
  have hA' : ∀ W, Kf (fun j => A j ∧ j ≠ w.heap.size) w1 W → ∀ j, W.heap.size ≤ j → (fun j => A j ∧ j ≠ w.heap.size) j := fun W k j hj => by
    have := k.size
    exact ⟨a1 j (by omega), by omega⟩
  have hP : ∀ W, T2 W (fun j => A j ∧ j ≠ w.heap.size) X Y d d → Kf (fun j => A j ∧ j ≠ w.heap.size) w1 W → Calls Try.prog 21 #[.pointer (some ⟨X, 0, none⟩), .int .i64 a] W fun r w' => r = .returned (.int .i64 (opM d a (drpF d a)).2) ∧ T2 w' (fun j => A j ∧ j ≠ w.heap.size) X Y (opM d a (drpF d a)).1 d ∧ Kf (fun j => A j ∧ j ≠ w.heap.size) w1 w' := fun W t k => (t2_drp t hok (hA' W k) hax).mono (fun r w' hh => ⟨hh.1, hh.2.1, k.trans hh.2.2⟩)
  have hQ : ∀ W, T2 W (fun j => A j ∧ j ≠ w.heap.size) X Y (opM d a (drpF d a)).1 d → Kf (fun j => A j ∧ j ≠ w.heap.size) w1 W → Calls Try.prog 22 #[.pointer (some ⟨Y, 0, none⟩), .int .i64 a] W fun r w' => r = .returned (.int .i64 (opM d a (drpF d a)).2) ∧ T2 w' (fun j => A j ∧ j ≠ w.heap.size) X Y (opM d a (drpF d a)).1 (opM d a (drpF d a)).1 ∧ Kf (fun j => A j ∧ j ≠ w.heap.size) w1 w' := fun W t k => (t2_drpq t hok (hA' W k)).mono (fun r w' hh => ⟨hh.1, hh.2.1, k.trans hh.2.2⟩)
  obtain ⟨d1, hd1⟩ : ∃ k, (opM d a (drpF d a)).1 = k := ⟨_, rfl⟩
  rw [hd1] at hP hQ ⊢
  obtain ⟨r1, hr1⟩ : ∃ k, (opM d a (drpF d a)).2 = k := ⟨_, rfl⟩
  rw [hr1] at hP hQ
  clear hr1
  clear hd1 hA' hok hk1 hk0 hbs hls hwf hax ht
  have hb2 := hb
  obtain ⟨y1, _⟩ := hb2 1 _ rfl
  have hk : Kf (fun j => A j ∧ j ≠ w.heap.size) w1 w1 := Kf.refl _ _
  obtain ⟨y00, _⟩ := hb 0 _ rfl
  go_enter Try.func9, Try.ntmps9
  go_upto_region 1 with fail
  rw [HW1.out]
  clear HW1
  go_upto_region 7 with fail
  clear y00
  go_region_held_law (fun w' => w'.cell? ⟨w.heap.size, 1, none⟩ = some (.int .i64 a))
    ((skip <;> (repeat (first | (with_reducible exact y1) | (with_reducible refine cell_dw ?_))) <;> done))
    (first
      | (go_at_call 21; (first | (with_reducible refine (hP _ ht1 hk).mono ?_) | (with_reducible refine (hP _ ht1.drew hk.drew).mono ?_)); rintro e w2 ⟨rfl, ht2, hk⟩; have hb2 := hb.kA hk hNA; obtain ⟨y1, _⟩ := hb2 1 _ rfl)
      | (go_at_call 22; (first | (with_reducible refine (hQ _ ht2 hk).mono ?_) | (with_reducible refine (hQ _ ht2.drew hk.drew).mono ?_)); rintro e w3 ⟨rfl, ht3, hk⟩; have hb2 := hb.kA hk hNA; obtain ⟨y1, _⟩ := hb2 1 _ rfl)
      | fail)
  all_goals (
    go_wp2
    go_ret
    exact ⟨rfl, ht3.back, Kf.back hk hal⟩)
set_option maxRecDepth 100000 in
set_option maxHeartbeats 4000000 in
theorem ldo_7 {w0 w : World} {A : Nat → Prop} {X Y : Nat} {d : Dk} {x : OpM} {bv lv : Value} (h : Dos w0 w A X Y d x bv lv) (hK : x.kind = 7) :
    Calls Try.prog 9 #[.pointer (some ⟨X, 0, none⟩), .pointer (some ⟨Y, 0, none⟩), .agg #[.int .i64 x.kind, .int .i64 x.a, .int .i64 x.b, .int .u8 x.y, bv, lv]] w fun e w' => e = .returned (.bool true) ∧ T2 w' A X Y (crD d x.ls) (crD d x.ls) ∧ Kf A w w' := by
  obtain ⟨K, a, b, y, bs, ls⟩ := x
  obtain ⟨ht, hok, a1, a0, hk0, hbs, hls, hwf, hbl, hll⟩ := h
  simp only at hK hbs hls hbl hll ⊢
  subst hK
  have hax := hwf.a
  simp only at hax
  obtain ⟨ba, bc, rfl, _⟩ := id hbs
  obtain ⟨la, lc, rfl, _⟩ := hls.form
  obtain ⟨nb, hnb⟩ : ∃ k, bs.length = k := ⟨_, rfl⟩
  obtain ⟨nl, hnl⟩ : ∃ k, ls.length = k := ⟨_, rfl⟩
  have hal : Below w.heap.size w (w.alloc (.cells #[.int .i64 7, .int .i64 a, .int .i64 b, .int .u8 y, .slice ba nb bc, .slice la nl lc] 33)) := (Below.refl _ _).alloc (Nat.le_refl _) _
  have hb : Bn (w.alloc (.cells #[.int .i64 7, .int .i64 a, .int .i64 b, .int .u8 y, .slice ba nb bc, .slice la nl lc] 33)) w.heap.size [.int .i64 7, .int .i64 a, .int .i64 b, .int .u8 y, .slice ba nb bc, .slice la nl lc] := Bn.new w [.int .i64 7, .int .i64 a, .int .i64 b, .int .u8 y, .slice ba nb bc, .slice la nl lc] _ _ rfl
  have hsz : (w.alloc (.cells #[.int .i64 7, .int .i64 a, .int .i64 b, .int .u8 y, .slice ba nb bc, .slice la nl lc] 33)).heap.size = w.heap.size + 1 := by simp
  rw [hnb] at hbs
  rw [hnl] at hls
  rw [hnb, hnl]
  have ht1 := (ht.but (Nat.le_refl w.heap.size)).on hal
  have hNA : ¬ (fun j => A j ∧ j ≠ w.heap.size) w.heap.size := fun h => h.2 rfl
  have hk1 : Kf A w0 (w.alloc (.cells #[.int .i64 7, .int .i64 a, .int .i64 b, .int .u8 y, .slice ba nb bc, .slice la nl lc] 33)) := hk0.alloc _
  obtain ⟨w1, hw1⟩ : ∃ k, w.alloc (.cells #[.int .i64 7, .int .i64 a, .int .i64 b, .int .u8 y, .slice ba nb bc, .slice la nl lc] 33) = k := ⟨_, rfl⟩
  rw [hw1] at hal hb hsz ht1 hk1
  have HW1 := hideD hw1
  clear hw1
  have hA' : ∀ W, Kf (fun j => A j ∧ j ≠ w.heap.size) w1 W → ∀ j, W.heap.size ≤ j → (fun j => A j ∧ j ≠ w.heap.size) j := fun W k j hj => by
    have := k.size
    exact ⟨a1 j (by omega), by omega⟩
  have hv : ∀ W, Kf (fun j => A j ∧ j ≠ w.heap.size) w1 W → ∀ F w2, (∀ j, F j → (fun j => A j ∧ j ≠ w.heap.size) j) → Kf F W w2 → RdI w2 ls (.slice la nl lc) := fun W k F w2 hF k2 => rdI_kf hls (hk1.trans (k.mono (fun j hj => hj.1))) a0 (fun j hj => (hF j hj).1) k2
  have hP : ∀ W, T2 W (fun j => A j ∧ j ≠ w.heap.size) X Y d d → Kf (fun j => A j ∧ j ≠ w.heap.size) w1 W → Calls Try.prog 14 #[.pointer (some ⟨X, 0, none⟩), .slice la nl lc] W fun r w' => r = .returned (.tuple #[]) ∧ T2 w' (fun j => A j ∧ j ≠ w.heap.size) X Y (crD d ls) d ∧ Kf (fun j => A j ∧ j ≠ w.heap.size) w1 w' := fun W t k => (t2_cr t hok (hA' W k) hll (hv W k)).mono (fun r w' hh => ⟨hh.1, hh.2.1, k.trans hh.2.2⟩)
  have hQ : ∀ W, T2 W (fun j => A j ∧ j ≠ w.heap.size) X Y (crD d ls) d → Kf (fun j => A j ∧ j ≠ w.heap.size) w1 W → Calls Try.prog 26 #[.pointer (some ⟨Y, 0, none⟩), .slice la nl lc] W fun r w' => r = .returned (.tuple #[]) ∧ T2 w' (fun j => A j ∧ j ≠ w.heap.size) X Y (crD d ls) (crD d ls) ∧ Kf (fun j => A j ∧ j ≠ w.heap.size) w1 w' := fun W t k => (t2_crq t hok (hA' W k) hll (hv W k)).mono (fun r w' hh => ⟨hh.1, hh.2.1, k.trans hh.2.2⟩)
  obtain ⟨d1, hd1⟩ : ∃ k, crD d ls = k := ⟨_, rfl⟩
  rw [hd1] at hP hQ ⊢
  clear hd1 hv hA' hok hk1 hk0 hbs hls hwf hax ht
  obtain ⟨y0, _⟩ := hb 0 _ rfl
  obtain ⟨y5, _⟩ := hb 5 _ rfl
  have hk : Kf (fun j => A j ∧ j ≠ w.heap.size) w1 w1 := Kf.refl _ _
  go_enter Try.func9, Try.ntmps9
  go_upto_region 1 with fail
  rw [HW1.out]
  clear HW1
  go_wp2_with (first
    | (go_at_call 14; refine (hP _ ht1 hk).mono ?_; rintro e w2 ⟨rfl, ht2, hk⟩; have hb2 := hb.kA hk hNA; obtain ⟨y5, _⟩ := hb2 5 _ rfl)
    | (go_at_call 26; refine (hQ _ ht2 hk).mono ?_; rintro e w3 ⟨rfl, ht3, hk⟩)
    | fail)
  go_ret
  exact ⟨rfl, ht3.back, Kf.back hk hal⟩
set_option maxRecDepth 100000 in
set_option maxHeartbeats 4000000 in
theorem ldo_8 {w0 w : World} {A : Nat → Prop} {X Y : Nat} {d : Dk} {x : OpM} {bv lv : Value} (h : Dos w0 w A X Y d x bv lv) (hK : x.kind = 8) :
    Calls Try.prog 9 #[.pointer (some ⟨X, 0, none⟩), .pointer (some ⟨Y, 0, none⟩), .agg #[.int .i64 x.kind, .int .i64 x.a, .int .i64 x.b, .int .u8 x.y, bv, lv]] w fun e w' => e = .returned (.bool true) ∧ T2 w' A X Y (spoD d x.a x.b x.y).1 (spoD d x.a x.b x.y).1 ∧ Kf A w w' := by
  obtain ⟨K, a, b, y, bs, ls⟩ := x
  obtain ⟨ht, hok, a1, a0, hk0, hbs, hls, hwf, hbl, hll⟩ := h
  simp only at hK hbs hls hbl hll ⊢
  subst hK
  have hax := hwf.a
  simp only at hax
  obtain ⟨ba, bc, rfl, _⟩ := id hbs
  obtain ⟨la, lc, rfl, _⟩ := hls.form
  obtain ⟨nb, hnb⟩ : ∃ k, bs.length = k := ⟨_, rfl⟩
  obtain ⟨nl, hnl⟩ : ∃ k, ls.length = k := ⟨_, rfl⟩
  have hal : Below w.heap.size w (w.alloc (.cells #[.int .i64 8, .int .i64 a, .int .i64 b, .int .u8 y, .slice ba nb bc, .slice la nl lc] 33)) := (Below.refl _ _).alloc (Nat.le_refl _) _
  have hb : Bn (w.alloc (.cells #[.int .i64 8, .int .i64 a, .int .i64 b, .int .u8 y, .slice ba nb bc, .slice la nl lc] 33)) w.heap.size [.int .i64 8, .int .i64 a, .int .i64 b, .int .u8 y, .slice ba nb bc, .slice la nl lc] := Bn.new w [.int .i64 8, .int .i64 a, .int .i64 b, .int .u8 y, .slice ba nb bc, .slice la nl lc] _ _ rfl
  have hsz : (w.alloc (.cells #[.int .i64 8, .int .i64 a, .int .i64 b, .int .u8 y, .slice ba nb bc, .slice la nl lc] 33)).heap.size = w.heap.size + 1 := by simp
  rw [hnb] at hbs
  rw [hnl] at hls
  rw [hnb, hnl]
  have ht1 := (ht.but (Nat.le_refl w.heap.size)).on hal
  have hNA : ¬ (fun j => A j ∧ j ≠ w.heap.size) w.heap.size := fun h => h.2 rfl
  have hk1 : Kf A w0 (w.alloc (.cells #[.int .i64 8, .int .i64 a, .int .i64 b, .int .u8 y, .slice ba nb bc, .slice la nl lc] 33)) := hk0.alloc _
  obtain ⟨w1, hw1⟩ : ∃ k, w.alloc (.cells #[.int .i64 8, .int .i64 a, .int .i64 b, .int .u8 y, .slice ba nb bc, .slice la nl lc] 33) = k := ⟨_, rfl⟩
  rw [hw1] at hal hb hsz ht1 hk1
  have HW1 := hideD hw1
  clear hw1
  have hA' : ∀ W, Kf (fun j => A j ∧ j ≠ w.heap.size) w1 W → ∀ j, W.heap.size ≤ j → (fun j => A j ∧ j ≠ w.heap.size) j := fun W k j hj => by
    have := k.size
    exact ⟨a1 j (by omega), by omega⟩
  have hP : ∀ W, T2 W (fun j => A j ∧ j ≠ w.heap.size) X Y d d → Kf (fun j => A j ∧ j ≠ w.heap.size) w1 W → Calls Try.prog 27 #[.pointer (some ⟨X, 0, none⟩), .int .i64 a, .int .i64 b, .int .u8 y] W fun r w' => r = .returned (.bool (spoD d a b y).2) ∧ T2 w' (fun j => A j ∧ j ≠ w.heap.size) X Y (spoD d a b y).1 d ∧ Kf (fun j => A j ∧ j ≠ w.heap.size) w1 w' := fun W t k => (t2_spo t (hA' W k) hax).mono (fun r w' hh => ⟨hh.1, hh.2.1, k.trans hh.2.2⟩)
  have hQ : ∀ W, T2 W (fun j => A j ∧ j ≠ w.heap.size) X Y (spoD d a b y).1 d → Kf (fun j => A j ∧ j ≠ w.heap.size) w1 W → Calls Try.prog 28 #[.pointer (some ⟨Y, 0, none⟩), .int .i64 a, .int .i64 b, .int .u8 y] W fun r w' => r = .returned (.bool (spoD d a b y).2) ∧ T2 w' (fun j => A j ∧ j ≠ w.heap.size) X Y (spoD d a b y).1 (spoD d a b y).1 ∧ Kf (fun j => A j ∧ j ≠ w.heap.size) w1 w' := fun W t k => (t2_spoq t hok (hA' W k)).mono (fun r w' hh => ⟨hh.1, hh.2.1, k.trans hh.2.2⟩)
  obtain ⟨d1, hd1⟩ : ∃ k, (spoD d a b y).1 = k := ⟨_, rfl⟩
  rw [hd1] at hP hQ ⊢
  obtain ⟨r1, hr1⟩ : ∃ k, (spoD d a b y).2 = k := ⟨_, rfl⟩
  rw [hr1] at hP hQ
  clear hr1
  clear hd1 hA' hok hk1 hk0 hbs hls hwf hax ht
  have hb2 := hb
  obtain ⟨y1, _⟩ := hb2 1 _ rfl; obtain ⟨y2, _⟩ := hb2 2 _ rfl; obtain ⟨y3, _⟩ := hb2 3 _ rfl
  have hk : Kf (fun j => A j ∧ j ≠ w.heap.size) w1 w1 := Kf.refl _ _
  obtain ⟨y00, _⟩ := hb 0 _ rfl
  go_enter Try.func9, Try.ntmps9
  go_upto_region 1 with fail
  rw [HW1.out]
  clear HW1
  go_upto_region 22 with fail
  clear y00
  go_region_held_law (fun w' => w'.cell? ⟨w.heap.size, 1, none⟩ = some (.int .i64 a) ∧ w'.cell? ⟨w.heap.size, 2, none⟩ = some (.int .i64 b) ∧ w'.cell? ⟨w.heap.size, 3, none⟩ = some (.int .u8 y))
    ((refine ⟨?_, ?_, ?_⟩ <;> (repeat (first | (with_reducible exact y1) | (with_reducible exact y2) | (with_reducible exact y3) | (with_reducible refine cell_dw ?_))) <;> done))
    (first
      | (go_at_call 27; (first | (with_reducible refine (hP _ ht1 hk).mono ?_) | (with_reducible refine (hP _ ht1.drew hk.drew).mono ?_)); rintro e w2 ⟨rfl, ht2, hk⟩; have hb2 := hb.kA hk hNA; obtain ⟨y1, _⟩ := hb2 1 _ rfl; obtain ⟨y2, _⟩ := hb2 2 _ rfl; obtain ⟨y3, _⟩ := hb2 3 _ rfl)
      | (go_at_call 28; (first | (with_reducible refine (hQ _ ht2 hk).mono ?_) | (with_reducible refine (hQ _ ht2.drew hk.drew).mono ?_)); rintro e w3 ⟨rfl, ht3, hk⟩; have hb2 := hb.kA hk hNA; obtain ⟨y1, _⟩ := hb2 1 _ rfl; obtain ⟨y2, _⟩ := hb2 2 _ rfl; obtain ⟨y3, _⟩ := hb2 3 _ rfl)
      | fail)
  all_goals (
    go_wp2
    go_ret
    exact ⟨rfl, ht3.back, Kf.back hk hal⟩)

theorem T2.cY {w : World} {A : Nat → Prop} {X Y : Nat} {d e : Dk} (h : T2 w A X Y d e) : ∃ Lv, Bn w Y [Lv, .int .i64 e.room, .int .i64 e.fuse, .bool e.dead] := by
  obtain ⟨F, G, h1, ⟨Lv, E, q1, q2, q3, q4⟩, h3, h4⟩ := h
  exact ⟨Lv, q4⟩
theorem T2.setF {w : World} {A : Nat → Prop} {X Y : Nat} {d e : Dk} (h : T2 w A X Y d e) (m : Int) : T2 (w.setCell ⟨Y, 2, none⟩ (.int .i64 m)) A X Y d { e with fuse := m } ∧ Kf A w (w.setCell ⟨Y, 2, none⟩ (.int .i64 m)) := by
  obtain ⟨F, G, h1, ⟨Lv, E, q1, q2, q3, q4⟩, h3, h4⟩ := h
  have hY := h4 Y q1
  have hsz : (w.setCell ⟨Y, 2, none⟩ (.int .i64 m)).heap.size = w.heap.size := by simp
  refine ⟨⟨F, G, h1.keep (fun b hb hlt => Below.heap_setCell _ _ _ _ (fun e => (h3 b hb).2.2 (by have e : b = Y := e; rw [e]; exact q1))), ⟨Lv, E, q1, q2, q3.setY _, q4.set (i := 2) (by simp) _⟩, fun j hj => by rw [hsz]; exact h3 j hj, fun j hj => by rw [hsz]; exact h4 j hj⟩, (Kf.refl A w).set hY.1 _⟩
theorem T2.setR {w : World} {A : Nat → Prop} {X Y : Nat} {d e : Dk} (h : T2 w A X Y d e) (m : Int) : T2 (w.setCell ⟨Y, 1, none⟩ (.int .i64 m)) A X Y d { e with room := m } ∧ Kf A w (w.setCell ⟨Y, 1, none⟩ (.int .i64 m)) := by
  obtain ⟨F, G, h1, ⟨Lv, E, q1, q2, q3, q4⟩, h3, h4⟩ := h
  have hY := h4 Y q1
  have hsz : (w.setCell ⟨Y, 1, none⟩ (.int .i64 m)).heap.size = w.heap.size := by simp
  refine ⟨⟨F, G, h1.keep (fun b hb hlt => Below.heap_setCell _ _ _ _ (fun e => (h3 b hb).2.2 (by have e : b = Y := e; rw [e]; exact q1))), ⟨Lv, E, q1, q2, q3.setY _, q4.set (i := 1) (by simp) _⟩, fun j hj => by rw [hsz]; exact h3 j hj, fun j hj => by rw [hsz]; exact h4 j hj⟩, (Kf.refl A w).set hY.1 _⟩
section
variable {W : World} {A : Nat → Prop} {X Y : Nat} {d e : Dk}
theorem t2_read (h : T2 W A X Y d e) (hu : usM d.L ≤ 1000000) {n : Int} (hn : (Lit.int .i64 n).wf = true) :
    Calls Try.prog 12 #[.pointer (some ⟨X, 0, none⟩), .int .i64 n] W fun e w' => (∃ v', e = .returned (.tuple #[v', .int .i64 (redD d n).2]) ∧ Own w' W.heap.size 5 v' (redD d n).1) ∧ Below W.heap.size W w' := by
  obtain ⟨F, G, h1, _⟩ := h
  exact dread_any h1 hu hn
theorem t2_readq (h : T2 W A X Y d e) (hu : usM e.L ≤ 1000000) {n : Int} :
    Calls Try.prog 23 #[.pointer (some ⟨Y, 0, none⟩), .int .i64 n] W fun r w' => (∃ v', r = .returned (.tuple #[v', .int .i64 (redD e n).2]) ∧ Own w' W.heap.size 5 v' (redD e n).1) ∧ Below W.heap.size W w' := by
  obtain ⟨F, G, _, h1, _⟩ := h
  exact qread_any h1 hu
theorem t2_fuse (h : T2 W A X Y d e) (hA : ∀ j, W.heap.size ≤ j → A j) (n : Int) :
    Calls Try.prog 24 #[.pointer (some ⟨X, 0, none⟩), .int .i64 n] W fun r w' => r = .returned (.tuple #[]) ∧ T2 w' A X Y { d with fuse := max n (-1) } e ∧ Kf A W w' :=
  h.stepP (Q := fun r _ => r = .returned (.tuple #[])) hA (fun F hp hF => (dfuse_any hp n).mono (fun r w' hh => ⟨hh.1, hh.2.1.mono (fun j _ hj => .inl hj), hh.2.2⟩))
theorem t2_room (h : T2 W A X Y d e) (hA : ∀ j, W.heap.size ≤ j → A j) (n : Int) :
    Calls Try.prog 25 #[.pointer (some ⟨X, 0, none⟩), .int .i64 n] W fun r w' => r = .returned (.tuple #[]) ∧ T2 w' A X Y { d with room := max n 0 } e ∧ Kf A W w' :=
  h.stepP (Q := fun r _ => r = .returned (.tuple #[])) hA (fun F hp hF => (droom_any hp n).mono (fun r w' hh => ⟨hh.1, hh.2.1.mono (fun j _ hj => .inl hj), hh.2.2⟩))
end
set_option maxRecDepth 100000 in
set_option maxHeartbeats 4000000 in
theorem ldo_4 {w0 w : World} {A : Nat → Prop} {X Y : Nat} {d : Dk} {x : OpM} {bv lv : Value} (h : Dos w0 w A X Y d x bv lv) (hK : x.kind = 4) :
    Calls Try.prog 9 #[.pointer (some ⟨X, 0, none⟩), .pointer (some ⟨Y, 0, none⟩), .agg #[.int .i64 x.kind, .int .i64 x.a, .int .i64 x.b, .int .u8 x.y, bv, lv]] w fun e w' => e = .returned (.bool true) ∧ T2 w' A X Y d d ∧ Kf A w w' := by
  obtain ⟨K, a, b, y, bs, ls⟩ := x
  obtain ⟨ht, hok, a1, a0, hk0, hbs, hls, hwf, hbl, hll⟩ := h
  simp only at hK hbs hls hbl hll ⊢
  subst hK
  have hax := hwf.a
  simp only at hax
  obtain ⟨ba, bc, rfl, _⟩ := id hbs
  obtain ⟨la, lc, rfl, _⟩ := hls.form
  obtain ⟨nb, hnb⟩ : ∃ k, bs.length = k := ⟨_, rfl⟩
  obtain ⟨nl, hnl⟩ : ∃ k, ls.length = k := ⟨_, rfl⟩
  have hal : Below w.heap.size w (w.alloc (.cells #[.int .i64 4, .int .i64 a, .int .i64 b, .int .u8 y, .slice ba nb bc, .slice la nl lc] 33)) := (Below.refl _ _).alloc (Nat.le_refl _) _
  have hb : Bn (w.alloc (.cells #[.int .i64 4, .int .i64 a, .int .i64 b, .int .u8 y, .slice ba nb bc, .slice la nl lc] 33)) w.heap.size [.int .i64 4, .int .i64 a, .int .i64 b, .int .u8 y, .slice ba nb bc, .slice la nl lc] := Bn.new w [.int .i64 4, .int .i64 a, .int .i64 b, .int .u8 y, .slice ba nb bc, .slice la nl lc] _ _ rfl
  have hsz : (w.alloc (.cells #[.int .i64 4, .int .i64 a, .int .i64 b, .int .u8 y, .slice ba nb bc, .slice la nl lc] 33)).heap.size = w.heap.size + 1 := by simp
  rw [hnb] at hbs
  rw [hnl] at hls
  rw [hnb, hnl]
  have ht1 := (ht.but (Nat.le_refl w.heap.size)).on hal
  have hNA : ¬ (fun j => A j ∧ j ≠ w.heap.size) w.heap.size := fun h => h.2 rfl
  have hk1 : Kf A w0 (w.alloc (.cells #[.int .i64 4, .int .i64 a, .int .i64 b, .int .u8 y, .slice ba nb bc, .slice la nl lc] 33)) := hk0.alloc _
  obtain ⟨w1, hw1⟩ : ∃ k, w.alloc (.cells #[.int .i64 4, .int .i64 a, .int .i64 b, .int .u8 y, .slice ba nb bc, .slice la nl lc] 33) = k := ⟨_, rfl⟩
  rw [hw1] at hal hb hsz ht1 hk1
  have HW1 := hideD hw1
  clear hw1
  have hA' : ∀ W, Kf (fun j => A j ∧ j ≠ w.heap.size) w1 W → ∀ j, W.heap.size ≤ j → (fun j => A j ∧ j ≠ w.heap.size) j := fun W k j hj => by
    have := k.size
    exact ⟨a1 j (by omega), by omega⟩
  have hu := hok.us
  have hP := t2_read ht1 (by omega) hax
  have hQ : ∀ W, Below w1.heap.size w1 W → Calls Try.prog 23 #[.pointer (some ⟨Y, 0, none⟩), .int .i64 a] W fun r w' => (∃ v', r = .returned (.tuple #[v', .int .i64 (redD d a).2]) ∧ Own w' W.heap.size 5 v' (redD d a).1) ∧ Below W.heap.size W w' := fun W b => t2_readq (ht1.on b) (by omega)
  obtain ⟨rd, hrd⟩ : ∃ k, redD d a = k := ⟨_, rfl⟩
  rw [hrd] at hP hQ
  obtain ⟨sb, r1⟩ := rd
  simp only at hP hQ
  have HT := hideD ht1
  have HAL := hideD hal
  clear hrd hok hk1 hk0 hbs hls hwf hax ht ht1 hu hal hA' hNA
  obtain ⟨y0, _⟩ := hb 0 _ rfl
  obtain ⟨y1, _⟩ := hb 1 _ rfl
  go_enter Try.func9, Try.ntmps9
  go_upto_region 1 with fail
  rw [HW1.out]
  clear HW1
  go_wp2_with (first
    | (go_at_call 12; refine hP.mono ?_; rintro e w2 ⟨⟨v2, rfl, o2⟩, b2⟩; clear hP; have y1 := (b2.cell (p := ⟨w.heap.size, 1, none⟩) hb.lt).trans y1; have HB2 := hideD b2)
    | (go_at_call 23; refine (hQ _ b2).mono ?_; rintro e w3 ⟨⟨v3, rfl, o3⟩, b3⟩; clear hQ; obtain ⟨p1, p2, rfl, _, _⟩ := slice_form o2; obtain ⟨q1, q2, rfl, _, _⟩ := slice_form o3; have hc1 := (rd_on o2.rd b3).convert Try.underlying30 Try.underlying5 Try.underlying9; have hc2 := o3.rd.convert Try.underlying30 Try.underlying5 Try.underlying9; have HB3 := hideD b3; clear o2 o3 b2 b3)
    | fail)
  go_ret
  have hbb := HB2.out.trans (HB3.out.mono HB2.out.size)
  exact ⟨rfl, (HT.out.on hbb).back, (Kf.of HAL.out (Nat.le_refl _)).trans (Kf.of hbb (Nat.le_refl _))⟩
set_option maxRecDepth 100000 in
set_option maxHeartbeats 4000000 in
theorem ldo_5 {w0 w : World} {A : Nat → Prop} {X Y : Nat} {d : Dk} {x : OpM} {bv lv : Value} (h : Dos w0 w A X Y d x bv lv) (hK : x.kind = 5) :
    Calls Try.prog 9 #[.pointer (some ⟨X, 0, none⟩), .pointer (some ⟨Y, 0, none⟩), .agg #[.int .i64 x.kind, .int .i64 x.a, .int .i64 x.b, .int .u8 x.y, bv, lv]] w fun e w' => e = .returned (.bool true) ∧ T2 w' A X Y { d with fuse := max x.a (-1) } { d with fuse := max x.a (-1) } ∧ Kf A w w' := by
  obtain ⟨K, a, b, y, bs, ls⟩ := x
  obtain ⟨ht, hok, a1, a0, hk0, hbs, hls, hwf, hbl, hll⟩ := h
  simp only at hK hbs hls hbl hll ⊢
  subst hK
  have hax := hwf.a
  simp only at hax
  obtain ⟨ba, bc, rfl, _⟩ := id hbs
  obtain ⟨la, lc, rfl, _⟩ := hls.form
  obtain ⟨nb, hnb⟩ : ∃ k, bs.length = k := ⟨_, rfl⟩
  obtain ⟨nl, hnl⟩ : ∃ k, ls.length = k := ⟨_, rfl⟩
  have hal : Below w.heap.size w (w.alloc (.cells #[.int .i64 5, .int .i64 a, .int .i64 b, .int .u8 y, .slice ba nb bc, .slice la nl lc] 33)) := (Below.refl _ _).alloc (Nat.le_refl _) _
  have hb : Bn (w.alloc (.cells #[.int .i64 5, .int .i64 a, .int .i64 b, .int .u8 y, .slice ba nb bc, .slice la nl lc] 33)) w.heap.size [.int .i64 5, .int .i64 a, .int .i64 b, .int .u8 y, .slice ba nb bc, .slice la nl lc] := Bn.new w [.int .i64 5, .int .i64 a, .int .i64 b, .int .u8 y, .slice ba nb bc, .slice la nl lc] _ _ rfl
  have hsz : (w.alloc (.cells #[.int .i64 5, .int .i64 a, .int .i64 b, .int .u8 y, .slice ba nb bc, .slice la nl lc] 33)).heap.size = w.heap.size + 1 := by simp
  rw [hnb] at hbs
  rw [hnl] at hls
  rw [hnb, hnl]
  have ht1 := (ht.but (Nat.le_refl w.heap.size)).on hal
  have hNA : ¬ (fun j => A j ∧ j ≠ w.heap.size) w.heap.size := fun h => h.2 rfl
  have hk1 : Kf A w0 (w.alloc (.cells #[.int .i64 5, .int .i64 a, .int .i64 b, .int .u8 y, .slice ba nb bc, .slice la nl lc] 33)) := hk0.alloc _
  obtain ⟨w1, hw1⟩ : ∃ k, w.alloc (.cells #[.int .i64 5, .int .i64 a, .int .i64 b, .int .u8 y, .slice ba nb bc, .slice la nl lc] 33) = k := ⟨_, rfl⟩
  rw [hw1] at hal hb hsz ht1 hk1
  have HW1 := hideD hw1
  clear hw1
  have hA' : ∀ W, Kf (fun j => A j ∧ j ≠ w.heap.size) w1 W → ∀ j, W.heap.size ≤ j → (fun j => A j ∧ j ≠ w.heap.size) j := fun W k j hj => by
    have := k.size
    exact ⟨a1 j (by omega), by omega⟩
  have hP := t2_fuse ht1 (hA' w1 (Kf.refl _ _)) a
  have hS : ∀ W (m : Int), m = max a (-1) → T2 W (fun j => A j ∧ j ≠ w.heap.size) X Y { d with fuse := max a (-1) } d → Kf (fun j => A j ∧ j ≠ w.heap.size) w1 W → T2 (W.setCell ⟨Y, 2, none⟩ (.int .i64 m)) A X Y { d with fuse := max a (-1) } { d with fuse := max a (-1) } ∧ Kf A w (W.setCell ⟨Y, 2, none⟩ (.int .i64 m)) := fun W m hm t k => by
    subst hm
    exact ⟨(t.setF _).1.back, Kf.back (k.trans (t.setF _).2) hal⟩
  clear hok hk1 hk0 hbs hls hwf hax ht ht1 hA'
  obtain ⟨y0, _⟩ := hb 0 _ rfl
  obtain ⟨y1, _⟩ := hb 1 _ rfl
  go_enter Try.func9, Try.ntmps9
  go_upto_region 1 with fail
  rw [HW1.out]
  clear HW1
  go_wp2_with (first
    | (go_at_call 24; refine hP.mono ?_; rintro e w2 ⟨rfl, ht2, hk⟩; clear hP; have y1 := (hb.kA hk hNA 1 _ rfl).1; obtain ⟨Lv, hYc⟩ := ht2.cY; obtain ⟨z2, f2⟩ := hYc 2 _ rfl; have HS := hideD (hS w2 _ rfl ht2 hk); clear hS hYc)
    | fail)
  go_ret
  exact ⟨rfl, HS.out⟩
set_option maxRecDepth 100000 in
set_option maxHeartbeats 4000000 in
theorem ldo_6 {w0 w : World} {A : Nat → Prop} {X Y : Nat} {d : Dk} {x : OpM} {bv lv : Value} (h : Dos w0 w A X Y d x bv lv) (hK : x.kind = 6) :
    Calls Try.prog 9 #[.pointer (some ⟨X, 0, none⟩), .pointer (some ⟨Y, 0, none⟩), .agg #[.int .i64 x.kind, .int .i64 x.a, .int .i64 x.b, .int .u8 x.y, bv, lv]] w fun e w' => e = .returned (.bool true) ∧ T2 w' A X Y { d with room := max x.a 0 } { d with room := max x.a 0 } ∧ Kf A w w' := by
  obtain ⟨K, a, b, y, bs, ls⟩ := x
  obtain ⟨ht, hok, a1, a0, hk0, hbs, hls, hwf, hbl, hll⟩ := h
  simp only at hK hbs hls hbl hll ⊢
  subst hK
  have hax := hwf.a
  simp only at hax
  obtain ⟨ba, bc, rfl, _⟩ := id hbs
  obtain ⟨la, lc, rfl, _⟩ := hls.form
  obtain ⟨nb, hnb⟩ : ∃ k, bs.length = k := ⟨_, rfl⟩
  obtain ⟨nl, hnl⟩ : ∃ k, ls.length = k := ⟨_, rfl⟩
  have hal : Below w.heap.size w (w.alloc (.cells #[.int .i64 6, .int .i64 a, .int .i64 b, .int .u8 y, .slice ba nb bc, .slice la nl lc] 33)) := (Below.refl _ _).alloc (Nat.le_refl _) _
  have hb : Bn (w.alloc (.cells #[.int .i64 6, .int .i64 a, .int .i64 b, .int .u8 y, .slice ba nb bc, .slice la nl lc] 33)) w.heap.size [.int .i64 6, .int .i64 a, .int .i64 b, .int .u8 y, .slice ba nb bc, .slice la nl lc] := Bn.new w [.int .i64 6, .int .i64 a, .int .i64 b, .int .u8 y, .slice ba nb bc, .slice la nl lc] _ _ rfl
  have hsz : (w.alloc (.cells #[.int .i64 6, .int .i64 a, .int .i64 b, .int .u8 y, .slice ba nb bc, .slice la nl lc] 33)).heap.size = w.heap.size + 1 := by simp
  rw [hnb] at hbs
  rw [hnl] at hls
  rw [hnb, hnl]
  have ht1 := (ht.but (Nat.le_refl w.heap.size)).on hal
  have hNA : ¬ (fun j => A j ∧ j ≠ w.heap.size) w.heap.size := fun h => h.2 rfl
  have hk1 : Kf A w0 (w.alloc (.cells #[.int .i64 6, .int .i64 a, .int .i64 b, .int .u8 y, .slice ba nb bc, .slice la nl lc] 33)) := hk0.alloc _
  obtain ⟨w1, hw1⟩ : ∃ k, w.alloc (.cells #[.int .i64 6, .int .i64 a, .int .i64 b, .int .u8 y, .slice ba nb bc, .slice la nl lc] 33) = k := ⟨_, rfl⟩
  rw [hw1] at hal hb hsz ht1 hk1
  have HW1 := hideD hw1
  clear hw1
  have hA' : ∀ W, Kf (fun j => A j ∧ j ≠ w.heap.size) w1 W → ∀ j, W.heap.size ≤ j → (fun j => A j ∧ j ≠ w.heap.size) j := fun W k j hj => by
    have := k.size
    exact ⟨a1 j (by omega), by omega⟩
  have hP := t2_room ht1 (hA' w1 (Kf.refl _ _)) a
  have hS : ∀ W (m : Int), m = max a 0 → T2 W (fun j => A j ∧ j ≠ w.heap.size) X Y { d with room := max a 0 } d → Kf (fun j => A j ∧ j ≠ w.heap.size) w1 W → T2 (W.setCell ⟨Y, 1, none⟩ (.int .i64 m)) A X Y { d with room := max a 0 } { d with room := max a 0 } ∧ Kf A w (W.setCell ⟨Y, 1, none⟩ (.int .i64 m)) := fun W m hm t k => by
    subst hm
    exact ⟨(t.setR _).1.back, Kf.back (k.trans (t.setR _).2) hal⟩
  clear hok hk1 hk0 hbs hls hwf hax ht ht1 hA'
  obtain ⟨y0, _⟩ := hb 0 _ rfl
  obtain ⟨y1, _⟩ := hb 1 _ rfl
  go_enter Try.func9, Try.ntmps9
  go_upto_region 1 with fail
  rw [HW1.out]
  clear HW1
  go_wp2_with (first
    | (go_at_call 25; refine hP.mono ?_; rintro e w2 ⟨rfl, ht2, hk⟩; clear hP; have y1 := (hb.kA hk hNA 1 _ rfl).1; obtain ⟨Lv, hYc⟩ := ht2.cY; obtain ⟨z1, f1⟩ := hYc 1 _ rfl; have HS := hideD (hS w2 _ rfl ht2 hk); clear hS hYc)
    | fail)
  go_ret
  exact ⟨rfl, HS.out⟩
set_option maxRecDepth 100000 in
set_option maxHeartbeats 4000000 in
theorem ldo_no {w0 w : World} {A : Nat → Prop} {X Y : Nat} {d : Dk} {x : OpM} {bv lv : Value} (h : Dos w0 w A X Y d x bv lv) (hK : x.kind ≠ 1 ∧ x.kind ≠ 2 ∧ x.kind ≠ 3 ∧ x.kind ≠ 4 ∧ x.kind ≠ 5 ∧ x.kind ≠ 6 ∧ x.kind ≠ 7 ∧ x.kind ≠ 8) :
    Calls Try.prog 9 #[.pointer (some ⟨X, 0, none⟩), .pointer (some ⟨Y, 0, none⟩), .agg #[.int .i64 x.kind, .int .i64 x.a, .int .i64 x.b, .int .u8 x.y, bv, lv]] w fun e w' => e = .returned (.bool true) ∧ T2 w' A X Y d d ∧ Kf A w w' := by
  obtain ⟨K, a, b, y, bs, ls⟩ := x
  obtain ⟨ht, hok, a1, a0, hk0, hbs, hls, hwf, hbl, hll⟩ := h
  simp only at hK hbs hls hbl hll ⊢
  have hax := hwf.a
  simp only at hax
  obtain ⟨ba, bc, rfl, _⟩ := id hbs
  obtain ⟨la, lc, rfl, _⟩ := hls.form
  obtain ⟨nb, hnb⟩ : ∃ k, bs.length = k := ⟨_, rfl⟩
  obtain ⟨nl, hnl⟩ : ∃ k, ls.length = k := ⟨_, rfl⟩
  have hal : Below w.heap.size w (w.alloc (.cells #[.int .i64 K, .int .i64 a, .int .i64 b, .int .u8 y, .slice ba nb bc, .slice la nl lc] 33)) := (Below.refl _ _).alloc (Nat.le_refl _) _
  have hb : Bn (w.alloc (.cells #[.int .i64 K, .int .i64 a, .int .i64 b, .int .u8 y, .slice ba nb bc, .slice la nl lc] 33)) w.heap.size [.int .i64 K, .int .i64 a, .int .i64 b, .int .u8 y, .slice ba nb bc, .slice la nl lc] := Bn.new w [.int .i64 K, .int .i64 a, .int .i64 b, .int .u8 y, .slice ba nb bc, .slice la nl lc] _ _ rfl
  have hsz : (w.alloc (.cells #[.int .i64 K, .int .i64 a, .int .i64 b, .int .u8 y, .slice ba nb bc, .slice la nl lc] 33)).heap.size = w.heap.size + 1 := by simp
  rw [hnb] at hbs
  rw [hnl] at hls
  rw [hnb, hnl]
  have ht1 := (ht.but (Nat.le_refl w.heap.size)).on hal
  have hNA : ¬ (fun j => A j ∧ j ≠ w.heap.size) w.heap.size := fun h => h.2 rfl
  have hk1 : Kf A w0 (w.alloc (.cells #[.int .i64 K, .int .i64 a, .int .i64 b, .int .u8 y, .slice ba nb bc, .slice la nl lc] 33)) := hk0.alloc _
  obtain ⟨w1, hw1⟩ : ∃ k, w.alloc (.cells #[.int .i64 K, .int .i64 a, .int .i64 b, .int .u8 y, .slice ba nb bc, .slice la nl lc] 33) = k := ⟨_, rfl⟩
  rw [hw1] at hal hb hsz ht1 hk1
  have HW1 := hideD hw1
  clear hw1
  have hA' : ∀ W, Kf (fun j => A j ∧ j ≠ w.heap.size) w1 W → ∀ j, W.heap.size ≤ j → (fun j => A j ∧ j ≠ w.heap.size) j := fun W k j hj => by
    have := k.size
    exact ⟨a1 j (by omega), by omega⟩
  obtain ⟨k1, k2, k3, k4, k5, k6, k7, k8⟩ := hK
  have HT := hideD ht1
  have HAL := hideD hal
  clear hok hk1 hk0 hbs hls hwf hax ht ht1 hA' hal
  obtain ⟨y0, _⟩ := hb 0 _ rfl
  go_enter Try.func9, Try.ntmps9
  go_upto_region 1 with fail
  rw [HW1.out]
  clear HW1
  go_wp2
  go_ret
  exact ⟨rfl, HT.out.back, Kf.of HAL.out (Nat.le_refl _)⟩
theorem ldo_any {w0 w : World} {A : Nat → Prop} {X Y : Nat} {d : Dk} {x : OpM} {bv lv : Value} (h : Dos w0 w A X Y d x bv lv) :
    Calls Try.prog 9 #[.pointer (some ⟨X, 0, none⟩), .pointer (some ⟨Y, 0, none⟩), .agg #[.int .i64 x.kind, .int .i64 x.a, .int .i64 x.b, .int .u8 x.y, bv, lv]] w fun e w' => e = .returned (.bool true) ∧ T2 w' A X Y (doD d x) (doD d x) ∧ Kf A w w' := by
  unfold doD
  by_cases h1 : x.kind = 1
  · rw [if_pos h1]; exact ldo_1 h h1
  rw [if_neg h1]
  by_cases h2 : x.kind = 2
  · rw [if_pos h2]; exact ldo_2 h h2
  rw [if_neg h2]
  by_cases h3 : x.kind = 3
  · rw [if_pos h3]; exact ldo_3 h h3
  rw [if_neg h3]
  by_cases h5 : x.kind = 5
  · rw [if_pos h5]; exact ldo_5 h h5
  rw [if_neg h5]
  by_cases h6 : x.kind = 6
  · rw [if_pos h6]; exact ldo_6 h h6
  rw [if_neg h6]
  by_cases h7 : x.kind = 7
  · rw [if_pos h7]; exact ldo_7 h h7
  rw [if_neg h7]
  by_cases h8 : x.kind = 8
  · rw [if_pos h8]; exact ldo_8 h h8
  rw [if_neg h8]
  by_cases h4 : x.kind = 4
  · exact ldo_4 h h4
  exact ldo_no h ⟨h1, h2, h3, h4, h5, h6, h7, h8⟩
end Go.Proofs.Ytibmbbiipffooaa
