import Derived.Test.YtgpgbingmeehdaaXlc06
import Derived.Test.YtgpgbingmeehdaaXlc01
import Derived.ProofKit
import Derived.OpenShut
import Derived.ShutString
import Derived.ChangeOld
import Derived.SizedLaws
import Derived.Below

/- LinksPlay. -/
namespace Go.Proofs.Ytgpgbingmeehdaa
open Go.RowKit Go.Lib Go.Maps
set_option linter.unusedSimpArgs false
set_option linter.unusedVariables false
attribute [local go_sem ↓] Go.wp_at_zero Go.wp_at_succ

def TLx (w0 w : World) (X Y : Nat) (N : Int) (j : Nat) : Prop := ∃ L D, (∃ F G, TL w0 w X Y F G N L D) ∧ Sz N L D j
/-- The block of a call's own copy. -/
theorem TL.pst {w0 w : World} {X Y : Nat} {F G : Nat → Prop} {N : Int} {L : LtL} {D : List Lk} (h : TL w0 w X Y F G N L D) (cs : List Value) (t : TypeId) : PSt w0 (w.alloc (.cells cs.toArray t)) X Y N L D w.heap.size cs := by
  refine ⟨F, G, h.on ((Below.refl _ _).alloc (Nat.le_refl _) _), Bn.new w cs t _ rfl, by simp, fun e => ?_, fun e => ?_⟩
  · have := (h.f _ e).2
    omega
  · have := (h.g _ e).2
    omega
theorem PSt.bel {w0 w : World} {X Y B : Nat} {N : Int} {L : LtL} {D : List Lk} {cs : List Value} (h : PSt w0 w X Y N L D B cs) : Below w0.heap.size w0 w := by
  obtain ⟨F, G, h1, _⟩ := h
  exact h1.a
theorem PSt.dr {w0 w : World} {X Y B : Nat} {N : Int} {L : LtL} {D : List Lk} {cs : List Value} (h : PSt w0 w X Y N L D B cs) : PSt w0 w.drew X Y N L D B cs := h.on ((Below.refl _ _).drew)
theorem PSt.cells {w0 w : World} {X Y B : Nat} {N : Int} {L : LtL} {D : List Lk} {a b c d e : Value} (h : PSt w0 w X Y N L D B [a, b, c, d, e]) : w.cell? ⟨B, 1, none⟩ = some b ∧ w.cell? ⟨B, 2, none⟩ = some c ∧ w.cell? ⟨B, 3, none⟩ = some d ∧ w.cell? ⟨B, 4, none⟩ = some e := by
  obtain ⟨F, G, h1, h2, _⟩ := h
  exact ⟨(h2 1 _ rfl).1, (h2 2 _ rfl).1, (h2 3 _ rfl).1, (h2 4 _ rfl).1⟩
theorem PSU.cells {w0 w : World} {X Y B : Nat} {N : Int} {L : LtL} {D : List Lk} {a b c d e u : Value} {bb : List Int} (h : PSU w0 w X Y N L D B [a, b, c, d, e] u bb) : w.cell? ⟨B, 1, none⟩ = some b ∧ w.cell? ⟨B, 2, none⟩ = some c ∧ w.cell? ⟨B, 3, none⟩ = some d ∧ w.cell? ⟨B, 4, none⟩ = some e := by
  obtain ⟨F, G, h1, h2, _⟩ := h
  exact ⟨(h2 1 _ rfl).1, (h2 2 _ rfl).1, (h2 3 _ rfl).1, (h2 4 _ rfl).1⟩
theorem PSt.lTotal {w0 w : World} {X Y B : Nat} {N : Int} {L : LtL} {D : List Lk} {cs : List Value} (h : PSt w0 w X Y N L D B cs) : Calls Try.prog 21 #[.pointer (some ⟨X, 0, none⟩)] w fun e w' => e = .returned (.int .i64 (L.length : Int)) ∧ PSt w0 w' X Y N L D B cs := by
  have hh := h
  obtain ⟨F, G, h1, _⟩ := h
  refine (lTotal_any h1.p).mono ?_
  rintro e w1 ⟨rfl, rfl⟩
  exact ⟨rfl, hh⟩
theorem PSt.rTotal {w0 w : World} {X Y B : Nat} {N : Int} {L : LtL} {D : List Lk} {cs : List Value} (h : PSt w0 w X Y N L D B cs) (hd : D.length ≤ 1000) (ht : tot D = L.length) (hl : L.length ≤ 100) : Calls Try.prog 22 #[.pointer (some ⟨Y, 0, none⟩)] w fun e w' => e = .returned (.int .i64 (L.length : Int)) ∧ PSt w0 w' X Y N L D B cs := by
  have hh := h
  obtain ⟨F, G, h1, _⟩ := h
  refine (rTotal_any h1.q hd (by omega)).mono ?_
  rintro e w1 ⟨rfl, b⟩
  exact ⟨by rw [ht], hh.on b⟩
theorem PSt.lCount {w0 w : World} {X Y B : Nat} {N : Int} {L : LtL} {D : List Lk} {cs : List Value} (h : PSt w0 w X Y N L D B cs) (hl : L.length ≤ 100) (f t : Int) : Calls Try.prog 23 #[.pointer (some ⟨X, 0, none⟩), .int .i64 f, .int .i64 t] w fun e w' => e = .returned (.int .i64 ((sel f t L).length : Int)) ∧ PSt w0 w' X Y N L D B cs := by
  have hh := h
  obtain ⟨F, G, h1, _⟩ := h
  refine (lCount_any h1.p (by omega) f t).mono ?_
  rintro e w1 ⟨rfl, b⟩
  exact ⟨rfl, hh.on b⟩
theorem PSt.rCount {w0 w : World} {X Y B : Nat} {N : Int} {L : LtL} {D : List Lk} {cs : List Value} (h : PSt w0 w X Y N L D B cs) (hd : D.length ≤ 1000) (hi : LInv N L D) (f t : Int) : Calls Try.prog 24 #[.pointer (some ⟨Y, 0, none⟩), .int .i64 f, .int .i64 t] w fun e w' => e = .returned (.int .i64 ((sel f t L).length : Int)) ∧ PSt w0 w' X Y N L (fnD N D f t) B cs := by
  by_cases hp : Pty N f t
  · rw [hi.s f t hp, fnD_on hp]
    exact h.stepQ (fun G q _ _ => rCount_any q hd hp)
  · rw [hi.none hp]
    have e : fnD N D f t = D := if_neg hp
    rw [e]
    have hh := h
    obtain ⟨F, G, h1, _⟩ := h
    refine (rCount_bad h1.q hp).mono ?_
    rintro e w1 ⟨rfl, rfl⟩
    exact ⟨rfl, hh⟩
/-- What stands behind a round's calls. -/
structure Zt (M : Int) (L : LtL) (D : List Lk) (j : Nat) : Prop where
  i : LInv M L D
  l : L.length ≤ 100
  d : D.length ≤ 2 * j + 1
  b : ∀ x ∈ L, x.2.2.length ≤ 20000
theorem PSt.next {w0 w : World} {X Y B : Nat} {M : Int} {L : LtL} {D : List Lk} {cs : List Value} {j : Nat} {f t : Int} (h : PSt w0 w X Y M L (fnD M D f t) B cs) (hz : Zt M L D j) : TLx w0 w X Y M (j + 1) := by
  obtain ⟨F, G, h1, _⟩ := h
  refine ⟨L, _, ⟨F, G, h1⟩, ?_, hz.l, ?_, hz.b⟩
  · unfold fnD
    split
    · exact hz.i.find f t
    · exact hz.i
  · have := hz.d
    unfold fnD
    split
    · have := (fnd_at f t D).2.2.2
      omega
    · omega
theorem sz_gt {M : Int} {L : LtL} {D : List Lk} {j : Nat} (hS : Sz M L D j) (f t : Int) : (Pty M f t → (gt f t D).length ≤ 100000) ∧ (Pty M f t → ∀ b ∈ gt f t D, b.length ≤ 1000000) :=
  ⟨fun hp => by have := (hS.gt hp).1; omega, fun hp b hb => by have := (hS.gt hp).2 b hb; omega⟩
theorem sz_gt2 {M : Int} {L : LtL} {D : List Lk} {j : Nat} (hS : Sz M L D j) (f t : Int) : Pty M f t → (gt f t D).length ≤ 1000 := fun hp => by have := (hS.gt hp).1; omega
theorem pair_send {w0 : World} {X Y B : Nat} {M : Int} {L : LtL} {D : List Lk} {cs : List Value} {j : Nat} (hS : Sz M L D j) (hj : j ≤ 300) (f t : Int) {u : Value} {b : List Int} (hr : Rd w0 u b) (hb : b.length ≤ 20000) : ∃ er L1 D1, Zt M L1 D1 j ∧
    (∀ W, PSt w0 W X Y M L D B cs → Calls Try.prog 11 #[.pointer (some ⟨X, 0, none⟩), .int .i64 f, .int .i64 t, u] W fun e w' => e = .returned (.int .i64 er) ∧ PSt w0 w' X Y M L1 D B cs) ∧
    (∀ W, PSt w0 W X Y M L1 D B cs → Calls Try.prog 12 #[.pointer (some ⟨Y, 0, none⟩), .int .i64 f, .int .i64 t, u] W fun e w' => e = .returned (.int .i64 er) ∧ PSt w0 w' X Y M L1 D1 B cs) := by
  obtain ⟨se, sl, sm, sd, sb⟩ := hS.send f t (b := b) hb
  have hd := hS.d
  have ht := hS.tot
  have hl := hS.l
  refine ⟨(sndD M D f t b).1, (sndL M L f t b).2, (sndD M D f t b).2, ⟨sl, sm, by omega, sb⟩, fun W h => ?_, fun W h => ?_⟩
  · rw [← se]
    exact h.stepP (fun F p => lSend_any p f t (rd_onL hr h.bel) (by omega))
  · exact h.stepQ (fun G q hG hb2 => rSend_any q (by omega) (by omega) (fun W hk => rd_onL hr (hb2.trans (hk.below hG hb2.size))) (by omega))
theorem pair_double {w0 : World} {X Y B : Nat} {M : Int} {L : LtL} {D : List Lk} {cs : List Value} {j : Nat} (hS : Sz M L D j) (hj : j ≤ 300) (f t c : Int) : ∃ er L1 D1, Zt M L1 D1 j ∧
    (∀ W, PSt w0 W X Y M L D B cs → Calls Try.prog 17 #[.pointer (some ⟨X, 0, none⟩), .int .i64 f, .int .i64 t, .int .i64 c] W fun e w' => e = .returned (.int .i64 er) ∧ PSt w0 w' X Y M L1 D B cs) ∧
    (∀ W, PSt w0 W X Y M L1 D B cs → Calls Try.prog 18 #[.pointer (some ⟨Y, 0, none⟩), .int .i64 f, .int .i64 t, .int .i64 c] W fun e w' => e = .returned (.int .i64 er) ∧ PSt w0 w' X Y M L1 D1 B cs) := by
  obtain ⟨se, sl, sm, sd, sb⟩ := hS.dbl f t c
  have hd := hS.d
  have ht := hS.tot
  have hl := hS.l
  have hg := sz_gt hS f t
  refine ⟨(dbD M D f t c).1, (dbL f t c L).2, (dbD M D f t c).2, ⟨sl, sm, by omega, sb⟩, fun W h => ?_, fun W h => ?_⟩
  · rw [← se]
    exact h.stepP (fun F p => lDouble_any p (by omega) (fun x hx => by have := hS.b x hx; omega) f t c)
  · exact h.stepQ (fun G q hG hb2 => rDouble_any q (by omega) (by omega) hg.1 hg.2 c)
theorem pair_turn {w0 : World} {X Y B : Nat} {M : Int} {L : LtL} {D : List Lk} {cs : List Value} {j : Nat} (hS : Sz M L D j) (hj : j ≤ 300) (f t : Int) : ∃ er L1 D1, Zt M L1 D1 j ∧
    (∀ W, PSt w0 W X Y M L D B cs → Calls Try.prog 19 #[.pointer (some ⟨X, 0, none⟩), .int .i64 f, .int .i64 t] W fun e w' => e = .returned (.bool er) ∧ PSt w0 w' X Y M L1 D B cs) ∧
    (∀ W, PSt w0 W X Y M L1 D B cs → Calls Try.prog 20 #[.pointer (some ⟨Y, 0, none⟩), .int .i64 f, .int .i64 t] W fun e w' => e = .returned (.bool er) ∧ PSt w0 w' X Y M L1 D1 B cs) := by
  obtain ⟨se, sl, sm, sd, sb⟩ := hS.turn f t
  have hd := hS.d
  have ht := hS.tot
  have hl := hS.l
  refine ⟨(trD M D f t).1, _, (trD M D f t).2, ⟨sl, sm, by omega, sb⟩, fun W h => ?_, fun W h => ?_⟩
  · rw [← se]
    exact h.stepP (fun F p => lTurn_any p (by omega) f t)
  · exact h.stepQ (fun G q hG hb2 => rTurn_any q (by omega) (sz_gt2 hS f t))
theorem pair_take {w0 : World} {X Y B : Nat} {M : Int} {L : LtL} {D : List Lk} {cs : List Value} {j : Nat} (hS : Sz M L D j) (hj : j ≤ 300) (f t c : Int) : ∃ ok b L1 D1, Zt M L1 D1 j ∧
    (∀ W, PSt w0 W X Y M L D B cs → Calls Try.prog 13 #[.pointer (some ⟨X, 0, none⟩), .int .i64 f, .int .i64 t, .int .i64 c] W fun e w' => ∃ u, e = .returned (.tuple #[u, .bool ok]) ∧ PSU w0 w' X Y M L1 D B cs u b) ∧
    (∀ W u, PSU w0 W X Y M L1 D B cs u b → Calls Try.prog 14 #[.pointer (some ⟨Y, 0, none⟩), .int .i64 f, .int .i64 t, .int .i64 c] W fun e w' => ∃ v, e = .returned (.tuple #[v, .bool ok]) ∧ PSt w0 w' X Y M L1 D1 B cs ∧ Rd w' u b ∧ Rd w' v b) := by
  obtain ⟨p1, p2, _, _⟩ := hS.pk f t c
  obtain ⟨sl, sm, sd, sb⟩ := hS.take f t c
  have hd := hS.d
  have hl := hS.l
  have hg := sz_gt hS f t
  refine ⟨(pkD M D f t c).1, (pkD M D f t c).2, tkL f t c L, tkD M D f t c, ⟨sl, by omega, by omega, sb⟩, fun W h => ?_, fun W u h => ?_⟩
  · rw [← p1, ← p2]
    exact h.lTake (by omega) f t c
  · exact h.rTake (by omega) (sz_gt2 hS f t) hg.2 c
theorem pair_peek {w0 : World} {X Y B : Nat} {M : Int} {L : LtL} {D : List Lk} {cs : List Value} {j : Nat} (hS : Sz M L D j) (hj : j ≤ 300) (f t c : Int) : ∃ ok b L1 D1, Zt M L1 D1 j ∧
    (∀ W, PSt w0 W X Y M L D B cs → Calls Try.prog 15 #[.pointer (some ⟨X, 0, none⟩), .int .i64 f, .int .i64 t, .int .i64 c] W fun e w' => ∃ u, e = .returned (.tuple #[u, .bool ok]) ∧ PSU w0 w' X Y M L1 D B cs u b) ∧
    (∀ W u, PSU w0 W X Y M L1 D B cs u b → Calls Try.prog 16 #[.pointer (some ⟨Y, 0, none⟩), .int .i64 f, .int .i64 t, .int .i64 c] W fun e w' => ∃ v, e = .returned (.tuple #[v, .bool ok]) ∧ PSt w0 w' X Y M L1 D1 B cs ∧ Rd w' u b ∧ Rd w' v b) := by
  obtain ⟨p1, p2, _, _⟩ := hS.pk f t c
  obtain ⟨s1, s2⟩ := hS.fn f t
  have hd := hS.d
  have hl := hS.l
  have hg := sz_gt hS f t
  refine ⟨(pkD M D f t c).1, (pkD M D f t c).2, L, fnD M D f t, ⟨s1, hS.l, by omega, hS.b⟩, fun W h => ?_, fun W u h => ?_⟩
  · rw [← p1, ← p2]
    exact h.lPeek (by omega) (fun x hx => by have := hS.b x hx; omega) f t c
  · exact h.rPeek (by omega) (sz_gt2 hS f t) hg.2 c
set_option maxRecDepth 100000 in
set_option maxHeartbeats 8000000 in
theorem linksPlay_main {w : World} (N : Int) {l : List OpK} {v : Value} (h : RdOk w l v) (hw : ∀ x ∈ l, WfK x) (hf : fewK 0 0 l = true) : Calls Try.prog 3 #[.int .i64 N, v] w fun e w' => e = .returned (.bool true) ∧ Below w.heap.size w w' := by
  have ha := lAwake_any w
  have hll := fewK_len hf
  have hby := fewK_bytes hf
  obtain ⟨sa, sc, rfl, hsl, hsm⟩ := id h.form
  have HL := hideL h
  have hfw := fun W (hb : Below w.heap.size w W) => lFew_any (h.on hb) hw
  rw [hf] at hfw
  have HBY := hideL hby
  clear h hf hw hby
  go_enter Try.func3, Try.ntmps3
  go_wp2_with (first
    | (go_at_call 7; refine ha.mono ?_; rintro e w1 ⟨rfl, b1⟩; have hf1 := hfw w1 b1; have HB1 := hideL b1; clear ha b1 hfw)
    | (go_at_call 8; refine hf1.mono ?_; rintro e w2 ⟨rfl, rfl⟩; have hN1 := lNew_any w1 N; clear hf1)
    | (go_at_call 9; refine hN1.mono ?_; rintro e w3 ⟨rfl, p3, b3⟩; have hN2 := rNew_any w3 N; have H3 := hideL (And.intro p3 b3); clear hN1 p3 b3)
    | (go_at_call 10; refine hN2.mono ?_; rintro e w4 ⟨rfl, q4, b4⟩; have H4 := hideL (And.intro q4 b4); clear hN2 q4 b4)
    | fail)
  have hT0 : TLx w1 w4 w1.heap.size w3.heap.size (ptN N) 0 := by
    obtain ⟨p3, b3⟩ := H3.out
    obtain ⟨q4, b4⟩ := H4.out
    have hX := p3.lt
    have hY : w3.heap.size < w4.heap.size := by
      obtain ⟨E, u, q, _⟩ := q4
      exact q.lt
    refine ⟨[], [], ⟨_, _, p3.on b4, q4, fun j hj => ?_, fun j hj => ?_, fun j hj hg => ?_, b3.trans (b4.mono b3.size)⟩, LInv.nil _, by simp, by simp, fun x hx => by simp at hx⟩
    · have e : j = w1.heap.size := hj
      have := b4.size
      omega
    · have e : j = w3.heap.size := hj
      have := b3.size
      omega
    · have e : j = w1.heap.size := hj
      have e2 : j = w3.heap.size := hg
      omega
  have HT0 := hideL hT0
  generalize ptN N = M at *
  clear hT0 H3 H4
  go_loopw [32] (fun i wr => ∃ (j : Nat), j ≤ l.length ∧ i = .int .i64 (j : Int) ∧ Hid (TLx w1 wr w1.heap.size w3.heap.size M j)) (fun i _ => l.length - (RowKit.intOf i).toNat)
  case atStart => exact ⟨0, Nat.zero_le _, rfl, HT0⟩
  case round =>
    obtain ⟨j, hj, rfl, HJ⟩ := hrel
    clear HT0
    have hbw : Below w.heap.size w wr := by
      obtain ⟨L, D, ⟨F, G, hT⟩, _⟩ := HJ.out
      exact HB1.out.trans (hT.a.mono HB1.out.size)
    by_cases hlt : j < l.length
    · obtain ⟨ra, rc, he, _, _, hcell⟩ := HL.out.on hbw
      simp only [Value.slice.injEq, true_and] at he
      obtain ⟨rfl, rfl⟩ := he
      obtain ⟨g, off, cs, hra, _, hgl, _, ⟨bv, rfl, hbv⟩, hcs⟩ := hcell j hlt
      subst hra
      obtain ⟨ba, bc, hbe, _⟩ := id hbv
      subst hbe
      have e0 := hcs 0 _ rfl
      have e1 := hcs 1 _ rfl
      have e2 := hcs 2 _ rfl
      have e3 := hcs 3 _ rfl
      have e4 := hcs 4 _ rfl
      rw [Nat.add_zero] at e0
      have hb2 := HBY.out _ (List.getElem_mem hlt)
      have k1 : (j : Int) < (l.length : Int) := by omega
      have k2 : (0 : Int) ≤ (j : Int) := by omega
      obtain ⟨L, D, ⟨F, G, hT⟩, hS⟩ := HJ.out
      have hRw1 : Rd w1 (.slice ba (l[j]).bs.length bc) (l[j]).bs := by
        obtain ⟨ra', rc', he', _, _, hcell'⟩ := HL.out.on HB1.out
        simp only [Value.slice.injEq, true_and] at he'
        obtain ⟨rfl, rfl⟩ := he'
        obtain ⟨g', off', cs', hra', _, hgl', _, ⟨bv', rfl, hbv'⟩, hcs'⟩ := hcell' j hlt
        have e : (⟨g, off, none⟩ : Addr) = ⟨g', off', none⟩ := Option.some.inj hra'
        obtain ⟨rfl, rfl, _⟩ := Addr.mk.inj e
        have e4' := hcs' 4 _ rfl
        have e5 := (hT.a.cell (p := ⟨g, off + j * 5 + 4, none⟩) hgl').trans e4'
        rw [e4] at e5
        rw [Option.some.inj e5]
        exact hbv'
      have hP := hT.pst [.int .i64 (l[j]).kind, .int .i64 (l[j]).a, .int .i64 (l[j]).b, .int .i64 (l[j]).c, .slice ba (l[j]).bs.length bc] 31
      generalize l[j] = x at *
      obtain ⟨kd, f, t, c, bs⟩ := x
      simp only at *
      have HP := hideL hP
      have HS := hideL hS
      have HR := hideL hRw1
      clear hcell hcs hbv HJ hT hS hP hRw1
      by_cases q1 : kd = 1
      · subst q1
        obtain ⟨er, L1, D1, hZ, hP1, hP2⟩ := pair_send HS.out (by omega) f t HR.out hb2 (w0 := w1) (X := w1.heap.size) (Y := w3.heap.size) (B := wr.heap.size) (cs := [.int .i64 1, .int .i64 f, .int .i64 t, .int .i64 c, .slice ba bs.length bc])
        go_upto_region 11 with fail
        have s0 := HP.out.dr
        have y1 := s0.cells
        have h1 := hP1 _ s0
        have HP2 := hideL hP2
        clear HS hP1 hP2 HP s0
        go_region_held (fun w' => w'.cell? ⟨wr.heap.size, 1, none⟩ = some (.int .i64 f) ∧ w'.cell? ⟨wr.heap.size, 2, none⟩ = some (.int .i64 t) ∧ w'.cell? ⟨wr.heap.size, 3, none⟩ = some (.int .i64 c) ∧ w'.cell? ⟨wr.heap.size, 4, none⟩ = some (.slice ba bs.length bc)) (first | exact y1 | exact y2 | exact y3) (first
          | (go_at_call 11; refine h1.mono ?_; rintro e w5 ⟨rfl, s5⟩; have y2 := s5.cells; have h2 := HP2.out _ s5; clear h1 s5)
          | (go_at_call 12; refine h2.mono ?_; rintro e w6 ⟨rfl, sT⟩; have y3 := sT.cells; clear h2)
          | fail)
        all_goals (
          go_upto_region 24 with fail
          have t0 := sT.dr
          have t1 := t0.lTotal
          have x1 := t0.cells
          have HZ := hideL hZ
          clear hZ sT t0
          go_region_held (fun w' => w'.cell? ⟨wr.heap.size, 1, none⟩ = some (.int .i64 f) ∧ w'.cell? ⟨wr.heap.size, 2, none⟩ = some (.int .i64 t)) (first | exact ⟨x1.1, x1.2.1⟩ | exact ⟨x2.1, x2.2.1⟩ | exact ⟨x3.1, x3.2.1⟩ | exact ⟨x4.1, x4.2.1⟩ | exact ⟨x5.1, x5.2.1⟩) (first
            | (go_at_call 21; refine t1.mono ?_; rintro e wA ⟨rfl, sA⟩; have x2 := sA.cells; have t2 := sA.rTotal (by have := HZ.out.d; omega) HZ.out.i.c HZ.out.l; clear t1 sA)
            | (go_at_call 22; refine t2.mono ?_; rintro e wB ⟨rfl, sB⟩; have x3 := sB.cells; have t3 := sB.lCount HZ.out.l f t; clear t2 sB)
            | (go_at_call 23; refine t3.mono ?_; rintro e wC ⟨rfl, sC⟩; have x4 := sC.cells; have t4 := sC.rCount (by have := HZ.out.d; omega) HZ.out.i f t; clear t3 sC)
            | (go_at_call 24; refine t4.mono ?_; rintro e wD ⟨rfl, sD⟩; have x5 := sD.cells; have HD := hideL sD; clear t4 sD)
            | fail)
          all_goals (
            go_wp2
            go_roundw
            (case rel => exact ⟨j + 1, hlt, by go_num, hideL (HD.out.next HZ.out)⟩)
            (case measure => simp [RowKit.intOf]; omega)))
      by_cases q2 : kd = 2
      · subst q2
        obtain ⟨ok, b, L1, D1, hZ, hP1, hP2⟩ := pair_take HS.out (by omega) f t c (w0 := w1) (X := w1.heap.size) (Y := w3.heap.size) (B := wr.heap.size) (cs := [.int .i64 2, .int .i64 f, .int .i64 t, .int .i64 c, .slice ba bs.length bc])
        have h1 := hP1 _ HP.out
        have HP2 := hideL hP2
        clear HS hP1 hP2 HP
        go_upto_region 24 with (first
          | (go_at_call 13; refine h1.mono ?_; rintro e w5 ⟨u, rfl, s5⟩; obtain ⟨y1, y2, y3, y4⟩ := s5.cells; have h2 := HP2.out _ _ s5; clear h1 s5)
          | (go_at_call 14; refine h2.mono ?_; rintro e w6 ⟨v, rfl, sT, ru, rv⟩; have c1 := rd_conv ru; have c2 := rd_conv rv; clear h2 ru rv)
          | fail)
        have t0 := sT.dr
        have t1 := t0.lTotal
        have x1 := t0.cells
        have HZ := hideL hZ
        clear hZ sT t0
        go_region_held (fun w' => w'.cell? ⟨wr.heap.size, 1, none⟩ = some (.int .i64 f) ∧ w'.cell? ⟨wr.heap.size, 2, none⟩ = some (.int .i64 t)) (first | exact ⟨x1.1, x1.2.1⟩ | exact ⟨x2.1, x2.2.1⟩ | exact ⟨x3.1, x3.2.1⟩ | exact ⟨x4.1, x4.2.1⟩ | exact ⟨x5.1, x5.2.1⟩) (first
          | (go_at_call 21; refine t1.mono ?_; rintro e wA ⟨rfl, sA⟩; have x2 := sA.cells; have t2 := sA.rTotal (by have := HZ.out.d; omega) HZ.out.i.c HZ.out.l; clear t1 sA)
          | (go_at_call 22; refine t2.mono ?_; rintro e wB ⟨rfl, sB⟩; have x3 := sB.cells; have t3 := sB.lCount HZ.out.l f t; clear t2 sB)
          | (go_at_call 23; refine t3.mono ?_; rintro e wC ⟨rfl, sC⟩; have x4 := sC.cells; have t4 := sC.rCount (by have := HZ.out.d; omega) HZ.out.i f t; clear t3 sC)
          | (go_at_call 24; refine t4.mono ?_; rintro e wD ⟨rfl, sD⟩; have x5 := sD.cells; have HD := hideL sD; clear t4 sD)
          | fail)
        all_goals (
          go_wp2
          go_roundw
          (case rel => exact ⟨j + 1, hlt, by go_num, hideL (HD.out.next HZ.out)⟩)
          (case measure => simp [RowKit.intOf]; omega))
      by_cases q3 : kd = 3
      · subst q3
        obtain ⟨ok, b, L1, D1, hZ, hP1, hP2⟩ := pair_peek HS.out (by omega) f t c (w0 := w1) (X := w1.heap.size) (Y := w3.heap.size) (B := wr.heap.size) (cs := [.int .i64 3, .int .i64 f, .int .i64 t, .int .i64 c, .slice ba bs.length bc])
        have h1 := hP1 _ HP.out
        have HP2 := hideL hP2
        clear HS hP1 hP2 HP
        go_upto_region 24 with (first
          | (go_at_call 15; refine h1.mono ?_; rintro e w5 ⟨u, rfl, s5⟩; obtain ⟨y1, y2, y3, y4⟩ := s5.cells; have h2 := HP2.out _ _ s5; clear h1 s5)
          | (go_at_call 16; refine h2.mono ?_; rintro e w6 ⟨v, rfl, sT, ru, rv⟩; have c1 := rd_conv ru; have c2 := rd_conv rv; clear h2 ru rv)
          | fail)
        have t0 := sT.dr
        have t1 := t0.lTotal
        have x1 := t0.cells
        have HZ := hideL hZ
        clear hZ sT t0
        go_region_held (fun w' => w'.cell? ⟨wr.heap.size, 1, none⟩ = some (.int .i64 f) ∧ w'.cell? ⟨wr.heap.size, 2, none⟩ = some (.int .i64 t)) (first | exact ⟨x1.1, x1.2.1⟩ | exact ⟨x2.1, x2.2.1⟩ | exact ⟨x3.1, x3.2.1⟩ | exact ⟨x4.1, x4.2.1⟩ | exact ⟨x5.1, x5.2.1⟩) (first
          | (go_at_call 21; refine t1.mono ?_; rintro e wA ⟨rfl, sA⟩; have x2 := sA.cells; have t2 := sA.rTotal (by have := HZ.out.d; omega) HZ.out.i.c HZ.out.l; clear t1 sA)
          | (go_at_call 22; refine t2.mono ?_; rintro e wB ⟨rfl, sB⟩; have x3 := sB.cells; have t3 := sB.lCount HZ.out.l f t; clear t2 sB)
          | (go_at_call 23; refine t3.mono ?_; rintro e wC ⟨rfl, sC⟩; have x4 := sC.cells; have t4 := sC.rCount (by have := HZ.out.d; omega) HZ.out.i f t; clear t3 sC)
          | (go_at_call 24; refine t4.mono ?_; rintro e wD ⟨rfl, sD⟩; have x5 := sD.cells; have HD := hideL sD; clear t4 sD)
          | fail)
        all_goals (
          go_wp2
          go_roundw
          (case rel => exact ⟨j + 1, hlt, by go_num, hideL (HD.out.next HZ.out)⟩)
          (case measure => simp [RowKit.intOf]; omega))
      by_cases q4 : kd = 4
      · subst q4
        obtain ⟨er, L1, D1, hZ, hP1, hP2⟩ := pair_double HS.out (by omega) f t c (w0 := w1) (X := w1.heap.size) (Y := w3.heap.size) (B := wr.heap.size) (cs := [.int .i64 4, .int .i64 f, .int .i64 t, .int .i64 c, .slice ba bs.length bc])
        go_upto_region 21 with fail
        have s0 := HP.out.dr
        have y1 := s0.cells
        have h1 := hP1 _ s0
        have HP2 := hideL hP2
        clear HS hP1 hP2 HP s0
        go_region_held (fun w' => w'.cell? ⟨wr.heap.size, 1, none⟩ = some (.int .i64 f) ∧ w'.cell? ⟨wr.heap.size, 2, none⟩ = some (.int .i64 t) ∧ w'.cell? ⟨wr.heap.size, 3, none⟩ = some (.int .i64 c) ∧ w'.cell? ⟨wr.heap.size, 4, none⟩ = some (.slice ba bs.length bc)) (first | exact y1 | exact y2 | exact y3) (first
          | (go_at_call 17; refine h1.mono ?_; rintro e w5 ⟨rfl, s5⟩; have y2 := s5.cells; have h2 := HP2.out _ s5; clear h1 s5)
          | (go_at_call 18; refine h2.mono ?_; rintro e w6 ⟨rfl, sT⟩; have y3 := sT.cells; clear h2)
          | fail)
        all_goals (
          go_upto_region 24 with fail
          have t0 := sT.dr
          have t1 := t0.lTotal
          have x1 := t0.cells
          have HZ := hideL hZ
          clear hZ sT t0
          go_region_held (fun w' => w'.cell? ⟨wr.heap.size, 1, none⟩ = some (.int .i64 f) ∧ w'.cell? ⟨wr.heap.size, 2, none⟩ = some (.int .i64 t)) (first | exact ⟨x1.1, x1.2.1⟩ | exact ⟨x2.1, x2.2.1⟩ | exact ⟨x3.1, x3.2.1⟩ | exact ⟨x4.1, x4.2.1⟩ | exact ⟨x5.1, x5.2.1⟩) (first
            | (go_at_call 21; refine t1.mono ?_; rintro e wA ⟨rfl, sA⟩; have x2 := sA.cells; have t2 := sA.rTotal (by have := HZ.out.d; omega) HZ.out.i.c HZ.out.l; clear t1 sA)
            | (go_at_call 22; refine t2.mono ?_; rintro e wB ⟨rfl, sB⟩; have x3 := sB.cells; have t3 := sB.lCount HZ.out.l f t; clear t2 sB)
            | (go_at_call 23; refine t3.mono ?_; rintro e wC ⟨rfl, sC⟩; have x4 := sC.cells; have t4 := sC.rCount (by have := HZ.out.d; omega) HZ.out.i f t; clear t3 sC)
            | (go_at_call 24; refine t4.mono ?_; rintro e wD ⟨rfl, sD⟩; have x5 := sD.cells; have HD := hideL sD; clear t4 sD)
            | fail)
          all_goals (
            go_wp2
            go_roundw
            (case rel => exact ⟨j + 1, hlt, by go_num, hideL (HD.out.next HZ.out)⟩)
            (case measure => simp [RowKit.intOf]; omega)))
      by_cases q5 : kd = 5
      · subst q5
        obtain ⟨er, L1, D1, hZ, hP1, hP2⟩ := pair_turn HS.out (by omega) f t (w0 := w1) (X := w1.heap.size) (Y := w3.heap.size) (B := wr.heap.size) (cs := [.int .i64 5, .int .i64 f, .int .i64 t, .int .i64 c, .slice ba bs.length bc])
        go_upto_region 23 with fail
        have s0 := HP.out.dr
        have y1 := s0.cells
        have h1 := hP1 _ s0
        have HP2 := hideL hP2
        clear HS hP1 hP2 HP s0
        go_region_held (fun w' => w'.cell? ⟨wr.heap.size, 1, none⟩ = some (.int .i64 f) ∧ w'.cell? ⟨wr.heap.size, 2, none⟩ = some (.int .i64 t) ∧ w'.cell? ⟨wr.heap.size, 3, none⟩ = some (.int .i64 c) ∧ w'.cell? ⟨wr.heap.size, 4, none⟩ = some (.slice ba bs.length bc)) (first | exact y1 | exact y2 | exact y3) (first
          | (go_at_call 19; refine h1.mono ?_; rintro e w5 ⟨rfl, s5⟩; have y2 := s5.cells; have h2 := HP2.out _ s5; clear h1 s5)
          | (go_at_call 20; refine h2.mono ?_; rintro e w6 ⟨rfl, sT⟩; have y3 := sT.cells; clear h2)
          | fail)
        all_goals (
          go_upto_region 24 with fail
          have t0 := sT.dr
          have t1 := t0.lTotal
          have x1 := t0.cells
          have HZ := hideL hZ
          clear hZ sT t0
          go_region_held (fun w' => w'.cell? ⟨wr.heap.size, 1, none⟩ = some (.int .i64 f) ∧ w'.cell? ⟨wr.heap.size, 2, none⟩ = some (.int .i64 t)) (first | exact ⟨x1.1, x1.2.1⟩ | exact ⟨x2.1, x2.2.1⟩ | exact ⟨x3.1, x3.2.1⟩ | exact ⟨x4.1, x4.2.1⟩ | exact ⟨x5.1, x5.2.1⟩) (first
            | (go_at_call 21; refine t1.mono ?_; rintro e wA ⟨rfl, sA⟩; have x2 := sA.cells; have t2 := sA.rTotal (by have := HZ.out.d; omega) HZ.out.i.c HZ.out.l; clear t1 sA)
            | (go_at_call 22; refine t2.mono ?_; rintro e wB ⟨rfl, sB⟩; have x3 := sB.cells; have t3 := sB.lCount HZ.out.l f t; clear t2 sB)
            | (go_at_call 23; refine t3.mono ?_; rintro e wC ⟨rfl, sC⟩; have x4 := sC.cells; have t4 := sC.rCount (by have := HZ.out.d; omega) HZ.out.i f t; clear t3 sC)
            | (go_at_call 24; refine t4.mono ?_; rintro e wD ⟨rfl, sD⟩; have x5 := sD.cells; have HD := hideL sD; clear t4 sD)
            | fail)
          all_goals (
            go_wp2
            go_roundw
            (case rel => exact ⟨j + 1, hlt, by go_num, hideL (HD.out.next HZ.out)⟩)
            (case measure => simp [RowKit.intOf]; omega)))
      have hZ : Zt M L D j := ⟨HS.out.i, HS.out.l, by have := HS.out.d; omega, HS.out.b⟩
      have sT := HP.out
      clear HS HP
      go_upto_region 24 with fail
      have t0 := sT.dr
      have t1 := t0.lTotal
      have x1 := t0.cells
      have HZ := hideL hZ
      clear hZ sT t0
      go_region_held (fun w' => w'.cell? ⟨wr.heap.size, 1, none⟩ = some (.int .i64 f) ∧ w'.cell? ⟨wr.heap.size, 2, none⟩ = some (.int .i64 t)) (first | exact ⟨x1.1, x1.2.1⟩ | exact ⟨x2.1, x2.2.1⟩ | exact ⟨x3.1, x3.2.1⟩ | exact ⟨x4.1, x4.2.1⟩ | exact ⟨x5.1, x5.2.1⟩) (first
        | (go_at_call 21; refine t1.mono ?_; rintro e wA ⟨rfl, sA⟩; have x2 := sA.cells; have t2 := sA.rTotal (by have := HZ.out.d; omega) HZ.out.i.c HZ.out.l; clear t1 sA)
        | (go_at_call 22; refine t2.mono ?_; rintro e wB ⟨rfl, sB⟩; have x3 := sB.cells; have t3 := sB.lCount HZ.out.l f t; clear t2 sB)
        | (go_at_call 23; refine t3.mono ?_; rintro e wC ⟨rfl, sC⟩; have x4 := sC.cells; have t4 := sC.rCount (by have := HZ.out.d; omega) HZ.out.i f t; clear t3 sC)
        | (go_at_call 24; refine t4.mono ?_; rintro e wD ⟨rfl, sD⟩; have x5 := sD.cells; have HD := hideL sD; clear t4 sD)
        | fail)
      all_goals (
        go_wp2
        go_roundw
        (case rel => exact ⟨j + 1, hlt, by go_num, hideL (HD.out.next HZ.out)⟩)
        (case measure => simp [RowKit.intOf]; omega))
    · have k1 : ¬ (j : Int) < (l.length : Int) := by omega
      clear HJ
      go_wp2
      go_ret
      exact ⟨rfl, hbw⟩

set_option maxRecDepth 100000 in
set_option maxHeartbeats 2000000 in
theorem linksPlay_off {w : World} (N : Int) {l : List OpK} {v : Value} (h : RdOk w l v) (hw : ∀ x ∈ l, WfK x) (hf : fewK 0 0 l = false) : Calls Try.prog 3 #[.int .i64 N, v] w fun e w' => e = .returned (.bool true) ∧ Below w.heap.size w w' := by
  have ha := lAwake_any w
  obtain ⟨sa, sc, rfl, _⟩ := id h.form
  have hfw := fun W (hb : Below w.heap.size w W) => lFew_any (h.on hb) hw
  rw [hf] at hfw
  clear h hf hw
  go_enter Try.func3, Try.ntmps3
  go_wp2_with (first
    | (go_at_call 7; refine ha.mono ?_; rintro e w1 ⟨rfl, b1⟩; have hf1 := hfw w1 b1; have HB1 := hideL b1; have ha2 := lAwake_any w1; clear ha b1 hfw)
    | (go_at_call 8; refine hf1.mono ?_; rintro e w2 ⟨rfl, rfl⟩; clear hf1)
    | (go_at_call 7; refine ha2.mono ?_; rintro e w3 ⟨rfl, b3⟩; have HB3 := hideL b3; clear ha2 b3)
    | fail)
  go_ret
  exact ⟨rfl, HB1.out.trans (HB3.out.mono HB1.out.size)⟩
theorem linksPlay_walk {w : World} (N : Int) (hN : (Lit.int .i64 N).wf = true) {l : List OpK} {v : Value} (h : RdOk w l v) (hw : ∀ x ∈ l, WfK x) : Calls Try.prog 3 #[.int .i64 N, v] w fun e w' => e = .returned (.bool true) ∧ Below w.heap.size w w' := by
  cases hf : fewK 0 0 l with
  | true => exact linksPlay_main N h hw hf
  | false => exact linksPlay_off N h hw hf
end Go.Proofs.Ytgpgbingmeehdaa

/- An argument that is a slice of bytes, opened: the bytes that it reads as, each from 0 to 255, and their number within the form's reach. -/
namespace Go.Proofs.Ytgpgbingmeehdaa
open Go.ChangeShapes Go.WideShapes Go.ChangeAt Go.RowKit

end Go.Proofs.Ytgpgbingmeehdaa

/- Arguments that are calls on links, or rows of them, opened. -/
namespace Go.Proofs.Ytgpgbingmeehdaa
open Go.ChangeShapes Go.WideShapes Go.ChangeAt Go.RowKit
set_option linter.unusedSimpArgs false
set_option linter.unusedVariables false

theorem pickD {α : Type} {Q : Nat → α → Prop} : ∀ n, (∀ i, i < n → ∃ y, Q i y) → ∃ l : List α, l.length = n ∧ ∀ i (h : i < l.length), Q i l[i]
  | 0, _ => ⟨[], rfl, fun i h => absurd h (by simp)⟩
  | n + 1, h => by
    obtain ⟨l, hl, hq⟩ := pickD n (fun i hi => h i (by omega))
    obtain ⟨y, hy⟩ := h n (by omega)
    refine ⟨l ++ [y], by simp [hl], fun i hi => ?_⟩
    by_cases hin : i < l.length
    · rw [List.getElem_append_left hin]
      exact hq i hin
    · have e : i = l.length := by simp at hi; omega
      subst e
      simp only [List.getElem_concat_length]
      rw [hl]
      exact hy
theorem weights_allD {H : Type} {P : Program} {e : TypeId} : ∀ {l : List (DataW H)} {d : DataW H}, d ∈ l → ∀ n ∈ d.weights P e, n ∈ DataW.weightsAll P e l
  | x :: r, d, h, n, hn => by
    simp only [DataW.weightsAll, List.mem_append]
    rcases List.mem_cons.1 h with rfl | h
    · exact .inl hn
    · exact .inr (weights_allD h n hn)
/-- What is met is not larger than what there may be. -/
def WtD {H : Type} (t : TypeId) (d : DataW H) : Prop := ∀ n ∈ d.weights Try.prog t, n ≤ reachBytes
theorem WtD.field {H : Type} {t u : TypeId} {fs : Array Field} {f : Field} {xs : List (DataW H × List MemPlace)} {y : DataW H × List MemPlace} (hu : Try.prog.underlying t = some (.struct fs)) (h : WtD t (.agg (xs.map (·.1)))) (j : Nat) (hf : fs[j]? = some f) (hy : xs[j]? = some y) (ht : f.type = u) : WtD u y.1 := fun n hn => by
  refine h n ?_
  simp only [DataW.weights, hu]
  refine DataW.weights_mem_each (j := j) (t := u) (d := y.1) ?_ (by simp [hy]) n hn
  simp [hf, ht]
theorem spot_noneD {w : World} {a : Addr} {v : Value} (h : w.cell? (a.add 0) = some v) : a = ⟨a.block, a.off, none⟩ := by
  rw [show a.add 0 = a from by simp [Addr.add]] at h
  unfold World.cell? at h
  split at h
  · obtain ⟨b, o, s⟩ := a
    cases s with
    | none => rfl
    | some x => simp at h
  · cases h
theorem RdK.bothD {α : Type} {ok : Nat → Prop} {w : World} {k : Nat} {R : α → List Value → Prop} {Q : α → Prop} {l : List α} {v : Value} (h : RdK ok w k (fun x cs => R x cs ∧ Q x) l v) : RdK ok w k R l v ∧ ∀ x ∈ l, Q x := by
  obtain ⟨a, cap, h1, h2, h3, h4⟩ := h
  refine ⟨⟨a, cap, h1, h2, h3, fun i hi => ?_⟩, fun x hx => ?_⟩
  · obtain ⟨b, off, cs, q1, q2, q3, q4, q5, q6⟩ := h4 i hi
    exact ⟨b, off, cs, q1, q2, q3, q4, q5.1, q6⟩
  · obtain ⟨i, hi, rfl⟩ := List.getElem_of_mem hx
    obtain ⟨b, off, cs, q1, q2, q3, q4, q5, q6⟩ := h4 i hi
    exact q5.2
section
variable {H : Type} {enc : TypeId × Value → H} {W : World}
theorem open_rowD {α : Type} {k : Nat} {R : α → List Value → Prop} {sl el : TypeId} (hu : Try.prog.underlying sl = some (.slice el)) (hc : Try.prog.cellsOf el = k) (hk : 0 < k) (hby : decide (1 ≤ Try.prog.bytesOf el) = true) {fuel : Nat} {cs : List Value} {x : DataW H × List MemPlace}
    (h : DataW.trod enc Try.prog W 0 (fun _ => true) true fuel sl cs = some x) (hw : WtD sl x.1) (hel : ∀ n' cs' y, fuel = n' + 1 → DataW.trod enc Try.prog W 0 (fun _ => true) true n' el cs' = some y → WtD el y.1 → ∃ a, R a cs') :
    ∃ (l : List α) (v : Value), cs = [v] ∧ RdK (fun _ => True) W k R l v ∧ l.length ≤ 140737488351232 := by
  rcases DataW.trod_slice hu h with ⟨rfl, _⟩ | ⟨ad, len, cap, elems, rest, n', hn', rfl, rfl, _, hlc, hcm, hel', helt, _, _⟩
  · exact ⟨[], _, rfl, rdK_none _ _ _ _, by simp⟩
  · have hlw : len ≤ 140737488351232 := by
      have h0 := hw ((elems.length + rest.length) * Try.prog.bytesOf el) (by simp [DataW.weights, hu])
      have h1 : (elems.length + rest.length) * 1 ≤ (elems.length + rest.length) * Try.prog.bytesOf el := Nat.mul_le_mul_left _ (of_decide_eq_true hby)
      have h2 : reachBytes = 140737488351232 := rfl
      omega
    rw [hc] at helt
    have hall : ∀ i, i < len → ∃ q : α × List Value, W.cells? 0 (ad.add (i * k)) k = some q.2 ∧ R q.1 q.2 := by
      intro i hi
      have h1 := helt i hi
      have hie : i < elems.length := by omega
      rw [List.getElem?_eq_getElem hie] at h1
      obtain ⟨cs', h2, h3⟩ := Option.bind_eq_some_iff.1 h1
      obtain ⟨a, ha⟩ := hel n' cs' _ hn' h3 (fun n hn => by
        refine hw n ?_
        simp only [DataW.weights, hu]
        exact List.mem_cons_of_mem _ (List.mem_append_left _ (weights_allD (List.mem_map_of_mem (List.getElem_mem hie)) n hn)))
      exact ⟨(a, cs'), h2, ha⟩
    obtain ⟨l, hll, hfy⟩ := pickD len hall
    refine ⟨l.map (·.1), _, rfl, ⟨some ad, cap, by simp [hll], by simpa [hll] using hlc, hcm, fun i hi => ?_⟩, by simpa [hll] using hlw⟩
    have hi' : i < l.length := by simpa using hi
    obtain ⟨_, q2, q3⟩ := World.cells?_some (hfy 0 (by omega)).1
    obtain ⟨_, g2, g3⟩ := World.cells?_some (hfy i hi').1
    have hs : ad = ⟨ad.block, ad.off, none⟩ := by
      have := q3 0 hk
      rw [Nat.zero_mul, show (ad.add 0).add 0 = ad.add 0 from by simp [Addr.add], List.getElem?_eq_getElem (by omega)] at this
      exact spot_noneD this
    generalize ad.block = b at hs
    generalize ad.off = off at hs
    subst hs
    have g4 : ∀ j u, (l[i]).2[j]? = some u → W.cell? ⟨b, off + i * k + j, none⟩ = some u := fun j u hj => by
      have hjl := (List.getElem?_eq_some_iff.1 hj).1
      have := g3 j (by omega)
      rw [add_plain, add_plain, hj] at this
      exact this
    refine ⟨b, off, (l[i]).2, rfl, trivial, ?_, g2, ?_, g4⟩
    · exact World.block_lt_of_cell? W _ (g4 0 _ (List.getElem?_eq_getElem (by omega)))
    · rw [List.getElem_map]
      exact (hfy i hi').2
theorem open_bytesD {fuel : Nat} {cs : List Value} {x : DataW H × List MemPlace} (h : DataW.trod enc Try.prog W 0 (fun _ => true) true fuel 29 cs = some x) (hw : WtD 29 x.1) : ∃ (bs : List Int) (v : Value), cs = [v] ∧ Rd W v bs ∧ (∀ b ∈ bs, 0 ≤ b ∧ b ≤ 255) ∧ bs.length ≤ 140737488351232 := by
  have hshape : cs = [.slice none 0 0] ∨ ∃ ad len cap, cs = [.slice (some ad) len cap] := by
    rcases DataW.trod_slice Try.underlying29 h with ⟨e, _⟩ | ⟨ad, len, cap, elems, rest, n', hn', e, _⟩
    · exact .inl e
    · exact .inr ⟨ad, len, cap, e⟩
  obtain ⟨l, v, rfl, h1, h2⟩ := open_rowD (k := 1) (R := fun (x : Int) cs => cs = [.int .u8 x] ∧ 0 ≤ x ∧ x ≤ 255) Try.underlying29 (by kernel_rfl) (by decide) (by kernel_rfl) h hw (fun n' cs' y _ hy _ => by
    obtain ⟨k, rfl, _, hk⟩ := DataW.trod_int Try.underlying5 hy
    have : 0 ≤ k ∧ k ≤ 255 := by simpa [Lit.wf, IntKind.min, IntKind.max, IntKind.signed, IntKind.bits] using hk
    exact ⟨k, rfl, this⟩)
  obtain ⟨h3, h4⟩ := RdK.bothD (R := fun (x : Int) cs => cs = [.int .u8 x]) (Q := fun x => 0 ≤ x ∧ x ≤ 255) h1
  obtain ⟨a, c, rfl, hl, hm, hc⟩ := h3
  refine ⟨l, _, rfl, ⟨a, c, rfl, hl, hm, fun e => ?_, fun y hy i hi => ?_⟩, h4, h2⟩
  · subst e
    rcases hshape with e | ⟨ad, len, cap, e⟩
    · simp only [List.cons.injEq, Value.slice.injEq, and_true, true_and] at e
      exact ⟨List.eq_nil_of_length_eq_zero e.1, e.2⟩
    · simp at e
  · obtain ⟨b, off, cs, e, _, _, _, e2, e3⟩ := hc i hi
    subst e2
    rw [e] at hy
    obtain rfl := Option.some.inj hy
    have := e3 0 _ rfl
    rw [Nat.mul_one, Nat.add_zero] at this
    rw [add_plain]
    simpa [List.getD, hi] using this
set_option maxRecDepth 100000 in
theorem open_op {fuel : Nat} {cs : List Value} {x : DataW H × List MemPlace} (h : DataW.trod enc Try.prog W 0 (fun _ => true) true fuel 31 cs = some x) (hw : WtD 31 x.1) : ∃ y : OpK, rOk W y cs ∧ WfK y := by
  obtain ⟨xs, n, _, rfl, hl, hlen, hf⟩ := DataW.trod_struct Try.underlying31 h
  have hc : Try.prog.cellsOf 31 = 5 := by kernel_rfl
  have cI : Try.prog.cellsOf 3 = 1 := by kernel_rfl
  have cb : Try.prog.cellsOf 29 = 1 := by kernel_rfl
  rw [hc] at hl
  have f0 : DataW.trod enc Try.prog W 0 (fun _ => true) true n 3 ((cs.drop 0).take (Try.prog.cellsOf 3)) = xs[0]? := hf 0 _ rfl
  have f1 : DataW.trod enc Try.prog W 0 (fun _ => true) true n 3 ((cs.drop 1).take (Try.prog.cellsOf 3)) = xs[1]? := hf 1 _ rfl
  have f2 : DataW.trod enc Try.prog W 0 (fun _ => true) true n 3 ((cs.drop 2).take (Try.prog.cellsOf 3)) = xs[2]? := hf 2 _ rfl
  have f3 : DataW.trod enc Try.prog W 0 (fun _ => true) true n 3 ((cs.drop 3).take (Try.prog.cellsOf 3)) = xs[3]? := hf 3 _ rfl
  have f4 : DataW.trod enc Try.prog W 0 (fun _ => true) true n 29 ((cs.drop 4).take (Try.prog.cellsOf 29)) = xs[4]? := hf 4 _ rfl
  rw [cI] at f0 f1 f2 f3
  rw [cb] at f4
  match cs, hl, xs, hlen with
  | [a, b, c, d, e], _, [y0, y1, y2, y3, y4], _ =>
    have w4 := hw.field Try.underlying31 4 rfl rfl rfl
    simp only [List.drop_zero, List.take_succ_cons, List.take_zero, List.drop_succ_cons, List.getElem?_cons_zero, List.getElem?_cons_succ] at f0 f1 f2 f3 f4
    obtain ⟨k0, e0, _, _⟩ := DataW.trod_int Try.underlying3 f0
    obtain ⟨k1, e1, _, _⟩ := DataW.trod_int Try.underlying3 f1
    obtain ⟨k2, e2, _, _⟩ := DataW.trod_int Try.underlying3 f2
    obtain ⟨k3, e3, _, _⟩ := DataW.trod_int Try.underlying3 f3
    obtain ⟨bs, v4, e4, r4, b4, l4⟩ := open_bytesD f4 w4
    simp only [List.cons.injEq, and_true] at e0 e1 e2 e3 e4
    subst e0 e1 e2 e3 e4
    exact ⟨⟨k0, k1, k2, k3, bs⟩, ⟨_, rfl, r4⟩, ⟨b4, l4⟩⟩
theorem open_ops {a : Option Addr} {len cap : Nat} {d : DataW H} {p : List MemPlace} (h : DataW.Trod enc Try.prog W 0 (fun _ => true) true 22 (.slice a len cap) d p) (hw : WtD 22 d) : ∃ l : List OpK, RdOk W l (.slice a len cap) ∧ ∀ x ∈ l, WfK x := by
  obtain ⟨fuel, hf⟩ := h
  obtain ⟨l, v, e, h1, _⟩ := open_rowD (k := 5) (R := fun x cs => rOk W x cs ∧ WfK x) Try.underlying22 (by kernel_rfl) (by decide) (by kernel_rfl) hf hw (fun n' cs' y _ hy hwy => open_op hy hwy)
  have e' : v = .slice a len cap := by simpa [Value.cells] using e.symm
  subst e'
  obtain ⟨h3, h4⟩ := RdK.bothD h1
  exact ⟨l, h3, h4⟩
end
end Go.Proofs.Ytgpgbingmeehdaa
