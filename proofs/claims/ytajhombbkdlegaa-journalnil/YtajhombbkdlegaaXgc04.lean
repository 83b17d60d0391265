import Derived.Test.YtajhombbkdlegaaXgc03
import Derived.Lib.SlBytesConst
import Derived.Laws.BitsAllLaws

/- The program's disk: Append. -/
namespace Go.Proofs.Ytajhombbkdlegaa
open Go.RowKit Go.Lib Go.Maps
set_option linter.unusedSimpArgs false
set_option linter.unusedVariables false
attribute [local go_sem ↓] Go.wp_at_zero Go.wp_at_succ

theorem lk_own {E : List (Int × Sv)} {w : World} {X : Nat} {F : Nat → Prop} {mv : Option Nat} (h : PR w X F mv E) (n : Int) : Own w 0 5 ((lk n E).getD zC).1 ((lk n E).getD zC).2.1 ∧ (∀ g, ((lk n E).getD zC).1.ownBlock = some g → F g ∧ g ≠ X) ∧ ∀ x ∈ E, x.1 ≠ n → ∀ g, x.2.1.ownBlock = some g → ((lk n E).getD zC).1.ownBlock ≠ some g := by
  cases hk : lk n E with
  | none =>
    refine ⟨World.ownsRow_nil w 0 5 1, fun g hg => ?_, fun x hx hne g hg h => ?_⟩
    · simp [zC, Value.ownBlock] at hg
    · simp [zC, Value.ownBlock] at h
  | some s =>
    have hm := lk_mem hk
    exact ⟨(h.s _ hm).1, (h.s _ hm).2, fun x hx hne g hg hs => apart_ne h.a hx hm (fun e => hne (by rw [e])) g hg hs⟩
theorem dorow_form {w : World} {base e n : Nat} {v : Value} {xs : List Value} (h : w.ownsRow base e 1 v n xs) : ∃ a cap, v = .slice a n cap ∧ n ≤ cap ∧ cap ≤ maxLen := by
  rcases h.2 with ⟨h1, h2⟩ | ⟨g, cap, cur, h1, _, _, h3, h4, _⟩
  · exact ⟨none, 0, by rw [h1, h2], by omega, by simp [maxLen]⟩
  · exact ⟨_, _, h1, h3, h4⟩
theorem lk_lt {β : Type} {n : Int} : ∀ {l : List (Int × β)}, (∀ x ∈ l, n < x.1) → lk n l = none
  | [], _ => rfl
  | y :: r, h => by
    have := h y List.mem_cons_self
    unfold lk
    rw [if_neg (by omega)]
    exact lk_lt (fun x hx => h x (List.mem_cons_of_mem _ hx))
theorem usM_cons (y : Int × Sm) (r : List (Int × Sm)) : usM (y :: r) = y.2.1.length + usM r := by simp [usM]
theorem usM_pt (n : Int) (s : Sm) : ∀ {L : List (Int × Sm)}, Ris L → usM (pt n s L) + ((lk n L).getD ([], 0)).1.length = usM L + s.1.length
  | [], _ => by simp [pt, lk, usM]
  | y :: r, hs => by
    obtain ⟨h1, h2⟩ := List.pairwise_cons.1 hs
    have ih := usM_pt n s h2
    unfold pt lk
    by_cases hlt : n < y.1
    · rw [if_pos hlt, if_neg (by omega), lk_lt (fun x hx => by have := h1 x hx; omega), usM_cons]
      simp
      omega
    · rw [if_neg hlt]
      by_cases he : y.1 = n
      · rw [if_pos he, if_pos he, usM_cons, usM_cons]
        simp
        omega
      · rw [if_neg he, if_neg he, usM_cons, usM_cons]
        omega
theorem usM_app {n : Int} {sb bs : List Int} {sn : Nat} {L : List (Int × Sm)} (hs : Ris L) (h : (lk n L).getD ([], 0) = (sb, sn)) : usM (pt n (sb ++ bs, sn) L) = usM L + bs.length := by
  have := usM_pt n (sb ++ bs, sn) hs
  rw [h, List.length_append] at this
  simp only at this
  omega
theorem usM_mmE {E : List (Int × Sv)} (n : Int) : ((lk n E).getD zC).2.1.length ≤ usM (mmE E) := by
  cases hq : lk n E with
  | none => simp [zC]
  | some s => exact usM_lk (by rw [mmE_lk, hq]; rfl)
theorem Kf.setNew {F : Nat → Prop} {N i : Nat} {a b : World} (h : Kf F a b) (hN : a.heap.size ≤ N) (u : Value) : Kf F a (b.setCell ⟨N, i, none⟩ u) :=
  ⟨h.os, h.tape, h.output, by simpa using h.size, fun k hk hn => (Below.heap_setCell _ _ _ _ (fun e => by have : k = N := e; omega)).trans (h.block k hk hn)⟩
/-- Bytes appended: the disk, the error. -/
def appD (d : Dk) (n : Int) (bs : List Int) : Dk × Int :=
  if d.dead = true then (d, 8) else if n < 0 then (d, 1) else if (bs.length : Int) > d.room - (usM d.L : Int) then (d, 7) else if d.fuse = 0 then (brn d, 8)
  else ({ brn d with L := pt n (((lk n d.L).getD ([], 0)).1 ++ bs, ((lk n d.L).getD ([], 0)).2) d.L }, 0)
theorem brn_L (d : Dk) : (brn d).L = d.L ∧ (brn d).room = d.room := by
  unfold brn
  split
  · exact ⟨rfl, rfl⟩
  · split <;> exact ⟨rfl, rfl⟩
set_option maxRecDepth 100000 in
set_option maxHeartbeats 8000000 in
theorem dapp_any {w : World} {X : Nat} {F : Nat → Prop} {d : Dk} {n : Int} {v : Value} {bs : List Int} (h0 : PD w X F d) (hfu : d.fuse ≤ 9223372036854775807) (hro : 0 ≤ d.room ∧ d.room ≤ 9223372036854775807) (hn : (Lit.int .i64 n).wf = true)
    (hl : d.L.length ≤ 100000) (hu : usM d.L ≤ 1000000) (hb : bs.length ≤ 1000000) (hv : ∀ w1, Kf F w w1 → Rd w1 v bs) :
    Calls Try.prog 27 #[.pointer (some ⟨X, 0, none⟩), .int .i64 n, v] w fun e w' => e = .returned (.int .i64 (appD d n bs).2) ∧ PD w' X (nF F w) (appD d n bs).1 ∧ Kf F w w' := by
  obtain ⟨mv, E, h⟩ := h0
  obtain ⟨fz, h1, h2, h3, h4, h5⟩ := id h
  obtain ⟨va, vc, rfl, hvl, hvm, _⟩ := id (hv w (Kf.refl F w))
  have hXl := h4.lt
  obtain ⟨c1, f1⟩ := h4 1 _ rfl
  obtain ⟨c2, f2⟩ := h4 2 _ rfl
  obtain ⟨c3, f3⟩ := h4 3 _ rfl
  have hwide : PD w X (nF F w) d := ⟨mv, E, h.mono (fun j _ hj => .inl hj)⟩
  unfold appD
  by_cases hd : d.dead = true
  · rw [if_pos hd]
    rw [hd] at c3
    clear h h2 h3 h4 h5
    go_enter Try.func27, Try.ntmps27
    go_wp2
    go_ret
    exact ⟨rfl, hwide, Kf.refl F w⟩
  rw [if_neg hd]
  have hd : d.dead = false := by simpa using hd
  rw [hd] at c3
  by_cases hn0 : n < 0
  · rw [if_pos hn0]
    clear h h2 h3 h4 h5
    go_enter Try.func27, Try.ntmps27
    go_wp2
    go_ret
    exact ⟨rfl, hwide, Kf.refl F w⟩
  rw [if_neg hn0]
  have hw1 : IntKind.i64.wrap (d.room - (usM d.L : Int)) = d.room - (usM d.L : Int) := by rw [IntKind.wrap_i64]; omega
  by_cases hr : (bs.length : Int) > d.room - (usM d.L : Int)
  · rw [if_pos hr]
    clear h h2 h3 h4 h5
    go_enter Try.func27, Try.ntmps27
    go_wp2
    go_quiet (fail)
    go_wp2
    go_ret
    exact ⟨rfl, hwide.keep (fun _ _ _ => rfl), (Kf.refl F w).drewN _⟩
  rw [if_neg hr]
  have hC := h.clip
  have hbn := fun m => dburn_any (w := w.drewN m) (hC.keep (fun _ _ _ => rfl)) hfu
  by_cases hz : d.fuse = 0
  · rw [if_pos hz]
    simp only [if_pos hz] at hbn
    have hkf := fun m => (Kf.refl (cF F w) w).drewN m
    clear h h2 h3 h4 h5 hC
    go_enter Try.func27, Try.ntmps27
    go_wp2
    go_quiet (fail)
    go_wp2_with (first
      | (go_at_call 53; refine (hbn _).mono ?_; rintro e w1 ⟨rfl, p1, k1⟩; clear hbn)
      | fail)
    go_ret
    exact ⟨rfl, ⟨mv, E, p1.wide.mono (fun j _ hj => .inl hj)⟩, ((hkf _).trans k1).wide⟩
  rw [if_neg hz]
  simp only [if_neg hz] at hbn
  have hkf := fun m => (Kf.refl (cF F w) w).drewN m
  have hmm : mmE E = d.L := h2
  have hlE : E.length ≤ 100000 := by rw [← hmm] at hl; simpa [mmE] using hl
  obtain ⟨d', hd'⟩ : ∃ d' : Dk, { brn d with L := pt n (((lk n d.L).getD ([], 0)).1 ++ bs, ((lk n d.L).getD ([], 0)).2) d.L } = d' := ⟨_, rfl⟩
  rw [hd']
  have HD := hideD hd'
  have HV := hideD hv
  clear h h2 h3 h4 h5 hd' hv hwide
  go_enter Try.func27, Try.ntmps27
  go_wp2
  go_quiet (fail)
  go_upto_region 12 with (first
    | (go_at_call 53; refine (hbn _).mono ?_; rintro e w1 ⟨rfl, p1, k1⟩; clear hbn)
    | fail)
  have hk1 := (hkf _).trans k1
  obtain ⟨gz, g1, g2, g3, g4, g5⟩ := id p1
  obtain ⟨a0, a1, a2⟩ := lk_own g3 n
  have hlk := mmE_lk n E
  rw [hmm] at hlk
  have hlook := g3.m.look hn
  obtain ⟨⟨sv, sb, sn⟩, hs0⟩ : ∃ x, (lk n E).getD zC = x := ⟨_, rfl⟩
  have hold : (lk n d.L).getD ([], 0) = (sb, sn) := by
    rw [hlk]
    cases hq : lk n E with
    | none =>
      rw [hq] at hs0
      simp only [Option.getD_none] at hs0
      cases hs0
      rfl
    | some s =>
      rw [hq] at hs0
      simp only [Option.getD_some] at hs0
      subst hs0
      rfl
  rw [hs0] at a0 a1 a2 hlook
  simp only at a0 a1 a2
  obtain ⟨sa, sc, rfl, hsl, hsm⟩ := slice_form a0
  unfold cv at hlook
  simp only at hlook
  obtain ⟨e0, i0⟩ := g4 0 _ rfl
  have hsbl : sb.length ≤ 1000000 := by
    have := usM_mmE (E := E) n
    rw [hs0, hmm] at this
    simp only at this
    omega
  have hal : Below w1.heap.size w1 (w1.alloc (.cells #[.slice sa sb.length sc, .int .i64 (sn : Int)] 93)) := (Below.refl _ _).alloc (Nat.le_refl _) _
  have hB8 : Bn (w1.alloc (.cells #[.slice sa sb.length sc, .int .i64 (sn : Int)] 93)) w1.heap.size [.slice sa sb.length sc, .int .i64 (sn : Int)] := Bn2.new _ _
  have hsz := hk1.size
  have hO2 : Own (w1.alloc (.cells #[.slice sa sb.length sc, .int .i64 (sn : Int)] 93)) 0 5 (.slice sa sb.length sc) sb := ownD_keep a0 (fun g hg => hal.block g (ownsRow_lt a0 g hg).2)
  have hR2 : Rd (w1.alloc (.cells #[.slice sa sb.length sc, .int .i64 (sn : Int)] 93)) (.slice va bs.length vc) bs := HV.out _ (hk1.wide.alloc _)
  have hB2 := g4.on hal
  have hX2 : PRx (w1.alloc (.cells #[.slice sa sb.length sc, .int .i64 (sn : Int)] 93)) X (cF F w) mv E n := (g3.x n).on hal (fun _ _ h => h)
  have hown1 := fun g hg => (ownsRow_lt a0 g hg).2
  have hxlt : ∀ x ∈ E, ∀ g, x.2.1.ownBlock = some g → g < w.heap.size := fun x hx g hg => ((g3.s x hx).2 g hg).1.2
  have hmlt : ∀ b, mv = some b → b < w.heap.size ∧ b ≠ X ∧ b < w1.heap.size ∧ (.slice sa sb.length sc : Value).ownBlock ≠ some b := fun b hb => by
    refine ⟨(g3.fm b hb).1.2, (g3.fm b hb).2, by have := (g3.fm b hb).1.2; omega, fun e => ?_⟩
    rcases g3.m with ⟨e1, _⟩ | ⟨b', e1, ho⟩
    · rw [hb] at e1
      cases e1
    · rw [hb] at e1
      cases e1
      obtain ⟨es, cl, hes, _⟩ := ho
      rcases a0.2 with ⟨e2, _⟩ | ⟨g', cap, cur, e2, _, hc, _⟩
      · rw [e2] at e
        simp [Value.ownBlock] at e
      · rw [e2] at e
        have : g' = b := by simpa [Value.ownBlock] using e
        subst this
        rw [hes] at hc
        cases hc
  have hK2 : Kf F w (w1.alloc (.cells #[.slice sa sb.length sc, .int .i64 (sn : Int)] 93)) := hk1.wide.alloc _
  have hs2 : (w1.alloc (.cells #[.slice sa sb.length sc, .int .i64 (sn : Int)] 93)).heap.size = w1.heap.size + 1 := by simp
  have hris := hideD (ris_mmE g3.r)
  have hg5 := hideD g5
  clear k1 hkf hC hlk hs0 p1 g2 g3 g4 g5 hk1 hal a0
  go_upto_region 13 with fail
  obtain ⟨Z, hZ⟩ : ∃ Z, w1.heap.size = Z := ⟨_, rfl⟩
  simp only [hZ] at hB8 hown1 hsz hs2 hmlt ⊢
  generalize w1.alloc (.cells #[.slice sa sb.length sc, .int .i64 (sn : Int)] 93) = w2 at *
  clear hZ hlook e0 i0
  obtain ⟨t0, k0⟩ := hB8 0 _ rfl
  obtain ⟨i0, hi, hz0, hz1, hz2⟩ := u8_inf
  have hsrc := hR2.src (t := 41) (e := 5) Try.underlying41
  have hO2' : w2.ownsRow 0 5 1 (.slice sa sb.length sc) sb.length (sb.map (Value.int .u8)) := hO2
  have HB8 := hideD hB8
  have HB2 := hideD hB2
  clear hB8 hB2 hO2 hR2
  have hfin : ∀ (vb : Value) (wb : World), wb.ownsRow 0 5 1 vb (sb.length + bs.length) (sb.map (Value.int .u8) ++ bs.map (Value.int .u8)) → w2.grownBy wb (.slice sa sb.length sc : Value).ownBlock → (vb.ownBlock = (.slice sa sb.length sc : Value).ownBlock ∨ vb.ownBlock = some w2.heap.size) →
      ∃ va' vc', vb = .slice va' (sb.length + bs.length) vc' ∧ Bn wb Z [.slice sa sb.length sc, .int .i64 (sn : Int)] ∧ Kf F w (wb.setCell ⟨Z, 0, none⟩ vb) ∧
        Calls Try.prog 54 #[.pointer (some ⟨X, 0, none⟩), .int .i64 n, cv (vb, sb ++ bs, sn)] (wb.setCell ⟨Z, 0, none⟩ vb) fun e w' => e = .returned (.tuple #[]) ∧ (∃ mv', Bn w' X (.map mv' :: [.int .i64 (usM (brn d).L : Int), .int .i64 (brn d).room, .bool (brn d).dead, .bool (decide (0 ≤ (brn d).fuse)), .int .i64 gz]) ∧ PR w' X (nF F w) mv' (pt n (vb, sb ++ bs, sn) E)) ∧ Kf (nF F w) (wb.setCell ⟨Z, 0, none⟩ vb) w' := fun vb wb hOb hgb hat => by
    obtain ⟨va', vc', hvb, _, _⟩ := dorow_form hOb
    have hZb : wb.heap[Z]? = w2.heap[Z]? := hgb.block Z (by omega) (fun e => by have := hown1 Z e.symm; omega)
    have hXb : wb.heap[X]? = w2.heap[X]? := hgb.block X (by omega) (fun e => (a1 X e.symm).2 rfl)
    have hBb := HB8.out.blk hZb
    have hne : ∀ b, b ≠ Z → (wb.setCell ⟨Z, 0, none⟩ vb).heap[b]? = wb.heap[b]? := fun b hb => Below.heap_setCell _ _ _ _ (fun e => hb e)
    have hXs := (HB2.out.blk hXb).far (show Z ≠ X by omega) (i := 0) vb
    have hlen : (sb ++ bs).length = sb.length + bs.length := by simp
    have hvo : Own (wb.setCell ⟨Z, 0, none⟩ vb) 0 5 vb (sb ++ bs) := by
      unfold Own
      rw [hlen, List.map_append]
      exact ownsRow_keep hOb (fun g hg => hne g (fun e => by
        subst e
        rcases hat with h | h
        · rw [h] at hg
          have := hown1 _ hg
          omega
        · rw [h] at hg
          have := Option.some.inj hg
          omega))
    have hvf : ∀ g, vb.ownBlock = some g → nF F w g ∧ g ≠ X := fun g hg => by
      rcases hat with h | h
      · rw [h] at hg
        exact ⟨.inl (a1 g hg).1.1, (a1 g hg).2⟩
      · rw [h] at hg
        have := Option.some.inj hg
        exact ⟨.inr (by omega), by omega⟩
    have hap : ∀ x ∈ E, x.1 ≠ n → ∀ g, x.2.1.ownBlock = some g → vb.ownBlock ≠ some g := fun x hx hne g hg e => by
      rcases hat with h | h
      · rw [h] at e
        exact a2 x hx hne g hg e
      · rw [h] at e
        have := Option.some.inj e
        have := hxlt x hx g hg
        omega
    have hPx : PRx (wb.setCell ⟨Z, 0, none⟩ vb) X (nF F w) mv E n := hX2.keep (fun j _ hj => .inl hj.1)
      (fun b hb hlt => by
        obtain ⟨m1, m2, m3, m4⟩ := hmlt b hb
        rw [hne b (by omega)]
        exact hgb.block b hlt (fun e => m4 e.symm))
      (fun x hx hxn g hg hlt => by
        have := hxlt x hx g hg
        rw [hne g (by omega)]
        exact hgb.block g hlt (fun e => a2 x hx hxn g hg e.symm))
    have hc := dput_any (s := (vb, sb ++ bs, sn)) hPx hXs (.inl h1) hn hlE hvo hvf hap
    refine ⟨va', vc', hvb, hBb, (hK2.trans (Kf.grown hgb (fun k hk => (a1 k hk).1.1))).setNew (by omega) _, hc.mono ?_⟩
    rintro e w' ⟨rfl, ⟨mv', q1, q2⟩, q3⟩
    refine ⟨rfl, ⟨mv', q1, q2.mono (fun j _ hj => hj.elim id (fun h => .inr ?_))⟩, q3⟩
    have h1 := hgb.size
    have h2 : (wb.setCell ⟨Z, 0, none⟩ vb).heap.size = wb.heap.size := by simp
    omega
  have HF := hideD hfin
  clear hfin hX2 hmlt
  go_wp2_with (first
    | (at_builtin; refine wpList_append_at _ rfl _ _ 41 41 rfl 0 5 i0 (.int .u8 0) 1 1 Try.underlying41 hi hz0 hz1 hz2 rfl (.slice sa sb.length sc) sb.length _ rfl hO2' _ _ _ rfl hsrc bs.length (.inr (by omega)) (Nat.le_refl _) (by unfold maxLen; omega) (Nat.zero_le _) ?_; intro vb wb hOb hgb hat; obtain ⟨va', vc', rfl, hBb, hKb, hput⟩ := HF.out vb wb hOb hgb hat; obtain ⟨b0, j0⟩ := hBb 0 _ rfl; obtain ⟨b1, j1⟩ := hBb 1 _ rfl; clear HF hO2' hsrc t0 k0 hat hgb hOb; unfold cv at hput; simp only at hput)
    | (go_at_call 54; refine hput.mono ?_; rintro e w4 ⟨rfl, ⟨mv', q1, q2⟩, q3⟩; clear hput; obtain ⟨x1, y1⟩ := q1 1 _ rfl)
    | fail)
  go_ret
  have hwr : wrap64 ((usM (brn d).L : Int) + (bs.length : Int)) = (usM d.L : Int) + (bs.length : Int) := by
    rw [(brn_L d).1]
    unfold wrap64
    omega
  rw [hwr]
  have hD := HD.out
  rw [hold] at hD
  have hus2 := usM_app (bs := bs) (show Ris d.L by rw [← hmm]; exact hris.out) hold
  have hq := q1.set (i := 1) (by simp) (.int .i64 ((usM d.L : Int) + (bs.length : Int)))
  refine ⟨rfl, ⟨mv', pt n (.slice va' (sb.length + bs.length) vc', sb ++ bs, sn) E, gz, .inl h1, ?_, q2.setX _, ?_, ?_⟩, (hKb.transN q3).set h1 _⟩
  · rw [mmE_pt, hmm, ← hD]
  · rw [← hD]
    simp only
    rw [hus2]
    exact hq
  · rw [← hD]
    exact hg5.out

/-- An operation on a segment that is there: the disk, the error. -/
def opM (d : Dk) (n : Int) (f : Sm → Dk) : Dk × Int := if d.dead = true then (d, 8) else match lk n d.L with | none => (d, 5) | some s => if d.fuse = 0 then (brn d, 8) else (f s, 0)
theorem op_cases {d : Dk} {E : List (Int × Sv)} (h : mmE E = d.L) (n : Int) :
    (∃ s, lk n E = some s ∧ opE d n E = (s, 0) ∧ opD d n E = brn d ∧ ∀ f, opM d n f = (f s.2, 0)) ∨ (∃ e, e ≠ 0 ∧ opE d n E = (zC, e) ∧ ∀ f, opM d n f = (opD d n E, e)) := by
  by_cases hd : d.dead = true
  · have e1 : fdE d.dead n E = (zC, 8) := if_pos hd
    refine .inr ⟨8, by decide, ?_, fun f => ?_⟩
    · unfold opE
      rw [e1]
      rfl
    · unfold opM opD
      rw [e1, if_pos hd]
      rfl
  · have e0 : fdE d.dead n E = match lk n E with | none => (zC, 5) | some s => (s, 0) := if_neg hd
    have e2 : lk n d.L = (lk n E).map (·.2) := by rw [← h, mmE_lk]
    cases hk : lk n E with
    | none =>
      rw [hk] at e0 e2
      simp only [Option.map_none] at e0 e2
      refine .inr ⟨5, by decide, ?_, fun f => ?_⟩
      · unfold opE
        rw [e0]
        rfl
      · unfold opM opD
        rw [e0, if_neg hd, e2]
        rfl
    | some s =>
      rw [hk] at e0 e2
      simp only [Option.map_some] at e0 e2
      by_cases hz : d.fuse = 0
      · refine .inr ⟨8, by decide, ?_, fun f => ?_⟩
        · unfold opE
          rw [e0, if_neg (by simp), if_pos hz]
        · unfold opM opD
          rw [e0, if_neg hd, e2, if_neg (by simp)]
          simp only
          rw [if_pos hz]
      · refine .inl ⟨s, rfl, ?_, ?_, fun f => ?_⟩
        · unfold opE
          rw [e0, if_neg (by simp), if_neg hz]
        · unfold opD
          rw [e0, if_neg (by simp)]
        · unfold opM
          rw [if_neg hd, e2]
          simp only
          rw [if_neg hz]
def synF (d : Dk) (n : Int) (s : Sm) : Dk := { brn d with L := pt n (s.1, s.1.length) d.L }
def drpF (d : Dk) (n : Int) (s : Sm) : Dk := { brn d with L := dl n d.L }
theorem usM_syn {n : Int} {s : Sm} {k : Nat} {L : List (Int × Sm)} (hs : Ris L) (h : lk n L = some s) : usM (pt n (s.1, k) L) = usM L := by
  have := usM_pt n (s.1, k) hs
  rw [h] at this
  simp only [Option.getD_some] at this
  omega
theorem usM_dl (n : Int) : ∀ {L : List (Int × Sm)}, Ris L → usM (dl n L) + ((lk n L).getD ([], 0)).1.length = usM L
  | [], _ => by simp [dl, lk, usM]
  | y :: r, hs => by
    obtain ⟨h1, h2⟩ := List.pairwise_cons.1 hs
    have ih := usM_dl n h2
    by_cases he : y.1 = n
    · have e : dl n (y :: r) = r := by
        unfold dl
        rw [List.filter_cons]
        simp only [he, decide_true, Bool.not_true]
        exact List.filter_eq_self.2 (fun x hx => by have := h1 x hx; simp; omega)
      unfold lk
      rw [e, if_pos he, usM_cons]
      simp
      omega
    · have e : dl n (y :: r) = y :: dl n r := by
        unfold dl
        rw [List.filter_cons]
        simp [he]
      unfold lk
      rw [e, if_neg he, usM_cons, usM_cons]
      omega
theorem usM_del {n : Int} {s : Sm} {L : List (Int × Sm)} (hs : Ris L) (h : lk n L = some s) : (usM (dl n L) : Int) = (usM L : Int) - (s.1.length : Int) ∧ s.1.length ≤ usM L := by
  have := usM_dl n hs
  rw [h] at this
  simp only [Option.getD_some] at this
  omega
set_option maxRecDepth 100000 in
set_option maxHeartbeats 4000000 in
theorem dsync_any {w : World} {X : Nat} {F : Nat → Prop} {d : Dk} {n : Int} (h0 : PD w X F d) (hfu : d.fuse ≤ 9223372036854775807) (hn : (Lit.int .i64 n).wf = true) (hl : d.L.length ≤ 100000) :
    Calls Try.prog 66 #[.pointer (some ⟨X, 0, none⟩), .int .i64 n] w fun e w' => e = .returned (.int .i64 (opM d n (synF d n)).2) ∧ PD w' X (nF F w) (opM d n (synF d n)).1 ∧ Kf F w w' := by
  obtain ⟨mv, E, h⟩ := h0
  have hmm : mmE E = d.L := by obtain ⟨_, _, h2, _⟩ := h; exact h2
  have hop := doper_any h.clip hfu hn
  have hlE : E.length ≤ 100000 := by rw [← hmm] at hl; simpa [mmE] using hl
  have hXw := h.lt
  rcases op_cases hmm n with ⟨⟨sv, sb, sn⟩, k1, k2, k3, k4⟩ | ⟨e, k1, k2, k3⟩
  · rw [k4]
    rw [k2, k3] at hop
    have hE := hideD (And.intro k1 hmm)
    obtain ⟨a, c, hsv⟩ : ∃ a c, sv = .slice a sb.length c := by
      obtain ⟨fz, h1, h2, h3, h4, h5⟩ := h
      obtain ⟨a, c, e, _, _⟩ := slice_form (h3.s _ (lk_mem k1)).1
      exact ⟨a, c, e⟩
    subst hsv
    unfold cv at hop
    simp only at hop
    clear h k1 k2 k3 k4
    go_enter Try.func66, Try.ntmps66
    go_upto_region 2 with (first
      | (go_at_call 69; refine hop.mono ?_; rintro e w2 ⟨rfl, p2, q2⟩; clear hop)
      | fail)
    have hal : Below w2.heap.size w2 (w2.alloc (.cells #[.slice a sb.length c, .int .i64 (sn : Int)] 93)) := (Below.refl _ _).alloc (Nat.le_refl _) _
    have hT := Bn2.new (w := w2) (.slice a sb.length c) (.int .i64 (sn : Int))
    have p3 := p2.on hal
    have q3 : Kf (cF F w) w (w2.alloc (.cells #[.slice a sb.length c, .int .i64 (sn : Int)] 93)) := q2.alloc _
    have hsz := q2.size
    obtain ⟨Z, hZ⟩ : ∃ Z, w2.heap.size = Z := ⟨_, rfl⟩
    simp only [hZ] at hT hsz ⊢
    generalize w2.alloc (.cells #[.slice a sb.length c, .int .i64 (sn : Int)] 93) = w3 at *
    clear hZ hal p2 q2
    obtain ⟨t0, s0⟩ := hT 0 _ rfl
    obtain ⟨t1, s1⟩ := hT 1 _ rfl
    obtain ⟨fz, g1, g2, g3, g4, g5⟩ := p3
    have hm := lk_mem hE.out.1
    have hset : ∀ b, b ≠ Z → (w3.setCell ⟨Z, 1, none⟩ (.int .i64 (sb.length : Int))).heap[b]? = w3.heap[b]? := fun b hb => Below.heap_setCell _ _ _ _ (fun e => hb e)
    have hP : PR (w3.setCell ⟨Z, 1, none⟩ (.int .i64 (sb.length : Int))) X (cF F w) mv E := g3.keep (fun b hb _ _ => hset b (by have := hb.2; omega))
    have hBX := g4.far (show Z ≠ X by have := g1.2; omega) (i := 1) (.int .i64 (sb.length : Int))
    have hput := dput_any (s := (.slice a sb.length c, sb, sb.length)) (hP.x n) hBX g1 hn hlE (hP.s _ hm).1 (hP.s _ hm).2 (fun x hx hne g hg => apart_ne hP.a hx hm (fun e => hne (by rw [e])) g hg)
    have hKs : Kf (cF F w) w (w3.setCell ⟨Z, 1, none⟩ (.int .i64 (sb.length : Int))) := q3.setNew hsz _
    have hsz3 : (w3.setCell ⟨Z, 1, none⟩ (.int .i64 (sb.length : Int))).heap.size = w3.heap.size := by simp
    have hsz4 := q3.size
    have HF := hideD (And.intro hKs (And.intro hsz3 (And.intro hsz4 (And.intro g1 g5))))
    have hrs := hideD (ris_mmE g3.r)
    unfold cv at hput
    simp only at hput
    clear g2 g3 g4 g5 hP hBX hKs hset hm q3 hT hsz3 hsz4
    go_wp2_with (first
      | (go_at_call 54; refine hput.mono ?_; rintro e w4 ⟨rfl, ⟨mv', q1, q2⟩, q3⟩; clear hput)
      | fail)
    go_ret
    obtain ⟨hKs, hsz3, hsz4, g1, g5⟩ := HF.out
    obtain ⟨k1, hmm⟩ := hE.out
    have hlL : lk n d.L = some (sb, sn) := by rw [← hmm, mmE_lk, k1]; rfl
    have hus := usM_syn (k := sb.length) (show Ris d.L by rw [← hmm]; exact hrs.out) hlL
    refine ⟨rfl, ⟨mv', pt n (.slice a sb.length c, sb, sb.length) E, fz, .inl g1.1, ?_, q2.mono (fun j _ hj => hj.elim (fun h => .inl h.1) (fun h => .inr (by omega))), ?_, ?_⟩, (hKs.trans q3).wide⟩
    · rw [mmE_pt, hmm]
      rfl
    · unfold synF
      simp only
      rw [hus]
      have := q1
      rw [(brn_L d).1] at this
      exact this
    · exact g5
  · rw [k3]
    rw [k2] at hop
    have hwide := fun W (p : PDE W X (cF F w) (opD d n E) mv E) => (⟨mv, E, p.wide.mono (fun j _ hj => Or.inl hj)⟩ : PD W X (nF F w) (opD d n E))
    unfold cv zC at hop
    simp only at hop
    clear h k2 k3
    go_enter Try.func66, Try.ntmps66
    go_wp2_with (first
      | (go_at_call 69; refine hop.mono ?_; rintro e w2 ⟨rfl, p2, q2⟩; clear hop)
      | fail)
    go_ret
    exact ⟨rfl, PD.on (hwide _ p2) ((Below.refl _ _).alloc (Nat.le_refl _) _), (q2.wide).alloc _⟩

theorem rd_on {w w' : World} {v : Value} {xs : List Int} (h : Rd w v xs) (hb : Below w.heap.size w w') : Rd w' v xs := by
  obtain ⟨a, c, rfl, hc, hm, hnil, hcell⟩ := h
  exact ⟨a, c, rfl, hc, hm, hnil, fun x hx i hi => (hb.cell (p := x.add i) (World.block_lt_of_cell? w _ (hcell x hx i hi))).trans (hcell x hx i hi)⟩
set_option maxRecDepth 100000 in
set_option maxHeartbeats 2000000 in
theorem clone_any {w : World} {v : Value} {bs : List Int} (h : Rd w v bs) (hb : bs.length ≤ 1000000) :
    Calls Try.prog 60 #[v] w fun e w' => (∃ v', e = .returned v' ∧ Own w' w.heap.size 5 v' bs) ∧ Below w.heap.size w w' := by
  have q22 : ∀ (w : World) (a : Option Addr) (n c n' c' : Nat), (binOp .eql 41 (.slice a n c) (.slice none n' c')).run Try.prog w = .ok (.bool a.isNone) w := fun w a n c n' c' => Lib.run_eql_slice_nil w _ _ a n c n' c' Try.underlying41
  obtain ⟨a, c, rfl, hc, hm, hnil, hcell⟩ := id h
  cases a with
  | none =>
    obtain ⟨rfl, rfl⟩ := hnil rfl
    clear hcell h
    go_enter Try.func60, Try.ntmps60
    go_wp2
    go_ret
    exact ⟨⟨_, rfl, World.ownsRow_nil w _ 5 1⟩, Below.refl _ w⟩
  | some a =>
    obtain ⟨i0, hi, hz0, hz1, hz2⟩ := u8_inf
    have hal : Below w.heap.size w (w.alloc (.cells #[] 5)) := (Below.refl _ _).alloc (Nat.le_refl _) _
    have hR := rd_on h hal
    have hsrc := hR.src (t := 41) (e := 5) Try.underlying41
    have hown : (w.alloc (.cells #[] 5)).ownsRow w.heap.size 5 1 (.slice (some ⟨w.heap.size, 0, none⟩) 0 0) 0 [] := World.ownsRow_made w #[] 0 (Nat.le_refl _) (Nat.zero_le _) rfl
    clear hcell h hR hnil
    go_enter Try.func60, Try.ntmps60
    go_wp2_with (first
      | (at_builtin; refine wpList_append_at _ rfl _ _ 41 41 rfl w.heap.size 5 i0 (.int .u8 0) 1 1 Try.underlying41 hi hz0 hz1 hz2 rfl _ 0 _ rfl hown _ _ _ rfl hsrc bs.length (.inr (by omega)) (Nat.le_refl _) (by unfold maxLen; omega) (by simp) ?_; intro vb wb hOb hgb hat; clear hown hsrc)
      | fail)
    go_ret
    refine ⟨⟨_, rfl, ?_⟩, hal.grown hgb (by simp) (fun k hk => by have : w.heap.size = k := Option.some.inj hk; omega)⟩
    unfold Own
    simpa using hOb
theorem zC_rd (w : World) : Rd w zC.1 zC.2.1 := ⟨none, 0, rfl, by simp [zC], by simp [maxLen], fun _ => ⟨rfl, rfl⟩, fun x hx => by cases hx⟩
set_option maxRecDepth 100000 in
set_option maxHeartbeats 2000000 in
/-- Read, by what find answers. -/
theorem dread_by {w : World} {p : Value} {n : Int} {s : Sv} {x : Int} (hf : Calls Try.prog 59 #[p, .int .i64 n] w fun e w' => e = .returned (.tuple #[cv s, .int .i64 x]) ∧ Below w.heap.size w w') (hs : Rd w s.1 s.2.1) (hb : s.2.1.length ≤ 1000000) :
    Calls Try.prog 31 #[p, .int .i64 n] w fun e w' => (∃ v', e = .returned (.tuple #[v', .int .i64 x]) ∧ Own w' w.heap.size 5 v' s.2.1) ∧ Below w.heap.size w w' := by
  obtain ⟨sv, sb, sn⟩ := s
  simp only at hs hb
  obtain ⟨a, c, rfl, hc, hm, _, _⟩ := id hs
  unfold cv at hf
  simp only at hf ⊢
  go_enter Try.func31, Try.ntmps31
  go_upto_region 2 with (first
    | (go_at_call 59; refine hf.mono ?_; rintro e w2 ⟨rfl, b2⟩; clear hf)
    | fail)
  have b3 : Below w2.heap.size w2 (w2.alloc (.cells #[.slice a sb.length c, .int .i64 (sn : Int)] 93)) := (Below.refl _ _).alloc (Nat.le_refl _) _
  have hT := Bn2.new (w := w2) (.slice a sb.length c) (.int .i64 (sn : Int))
  have hR := rd_on (rd_on hs b2) b3
  have hbw := b2.trans (b3.mono b2.size)
  have hsz := hbw.size
  obtain ⟨t0, k0⟩ := hT 0 _ rfl
  have hcl := clone_any hR hb
  clear hR hs b2 hT b3
  obtain ⟨Z, hZ⟩ : ∃ Z, w2.heap.size = Z := ⟨_, rfl⟩
  simp only [hZ] at t0 k0 ⊢
  generalize w2.alloc (.cells #[.slice a sb.length c, .int .i64 (sn : Int)] 93) = w3 at *
  go_wp2_with (first
    | (go_at_call 60; refine hcl.mono ?_; rintro e w4 ⟨⟨v', rfl, ho⟩, b4⟩; clear hcl)
    | fail)
  go_ret2
  exact ⟨⟨_, rfl, ⟨ho.1, ho.2.imp id (fun ⟨g, cap, cur, e1, e2, e3⟩ => ⟨g, cap, cur, e1, Nat.le_trans hsz e2, e3⟩)⟩⟩, hbw.trans (b4.mono hsz)⟩
theorem fd_rd {w : World} {X : Nat} {F : Nat → Prop} {d : Dk} {mv : Option Nat} {E : List (Int × Sv)} (h : PDE w X F d mv E) (n : Int) : Rd w (fdE d.dead n E).1.1 (fdE d.dead n E).1.2.1 ∧ (fdE d.dead n E).1.2.1.length ≤ usM d.L := by
  obtain ⟨fz, h1, h2, h3, h4, h5⟩ := h
  unfold fdE
  split
  · exact ⟨zC_rd w, by simp [zC]⟩
  · cases hk : lk n E with
    | none => exact ⟨zC_rd w, by simp [zC]⟩
    | some s => exact ⟨(h3.s _ (lk_mem hk)).1.rd, by rw [← h2]; exact usM_lk (by rw [mmE_lk, hk]; rfl)⟩
/-- What Read answers: the bytes, the error. -/
def redD (d : Dk) (n : Int) : List Int × Int := if d.dead = true then ([], 8) else match lk n d.L with | none => ([], 5) | some s => (s.1, 0)
theorem fd_red {d : Dk} {E : List (Int × Sv)} (h : mmE E = d.L) (n : Int) : redD d n = ((fdE d.dead n E).1.2.1, (fdE d.dead n E).2) := by
  unfold redD fdE
  by_cases hd : d.dead = true
  · rw [if_pos hd, if_pos hd]
    rfl
  · rw [if_neg hd, if_neg hd, ← h, mmE_lk]
    cases lk n E <;> rfl
theorem dread_any {w : World} {X : Nat} {F : Nat → Prop} {d : Dk} (h : PD w X F d) (hu : usM d.L ≤ 1000000) {n : Int} (hn : (Lit.int .i64 n).wf = true) :
    Calls Try.prog 31 #[.pointer (some ⟨X, 0, none⟩), .int .i64 n] w fun e w' => (∃ v', e = .returned (.tuple #[v', .int .i64 (redD d n).2]) ∧ Own w' w.heap.size 5 v' (redD d n).1) ∧ Below w.heap.size w w' := by
  obtain ⟨mv, E, h⟩ := h
  obtain ⟨f1, f2⟩ := fd_rd h n
  have := dread_by (dfind_any h hn) f1 (by omega)
  obtain ⟨fz, h1, h2, h3, h4, h5⟩ := h
  rw [fd_red h2]
  exact this

def xrB (a b : Int) : Int := bits .xor .u8 a b
/-- A byte turned: the disk, whether there is one. -/
def spoD (d : Dk) (n k b : Int) : Dk × Bool :=
  if k < 0 ∨ k ≥ ((((lk n d.L).getD ([], 0)).1.length : Nat) : Int) then (d, false)
  else ({ d with L := pt n (((lk n d.L).getD ([], 0)).1.set k.toNat (xrB (((lk n d.L).getD ([], 0)).1.getD k.toNat 0) b), ((lk n d.L).getD ([], 0)).2) d.L }, true)

/-- How many bytes are kept. -/
def kpN (s : Sm) (t : Int) : Nat := s.2 + (min (max t 0) ((s.1.length : Int) - (s.2 : Int))).toNat
theorem kpN_le {s : Sm} (t : Int) (h : s.2 ≤ s.1.length) : kpN s t ≤ s.1.length := by
  unfold kpN
  omega
end Go.Proofs.Ytajhombbkdlegaa
