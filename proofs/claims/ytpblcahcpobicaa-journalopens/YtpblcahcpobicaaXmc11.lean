import Derived.Test.YtpblcahcpobicaaXmc09
import Derived.Test.YtpblcahcpobicaaXmc10
import Derived.Deep.RegionLaw
import Derived.Deep.Cut
import Derived.Test.YtpblcahcpobicaaXmc05

/- The document's journal: part. -/
namespace Go.Proofs.Ytpblcahcpobicaa
open Go.RowKit Go.Lib Go.Maps
set_option linter.unusedSimpArgs false
set_option linter.unusedVariables false
set_option maxRecDepth 100000
attribute [local go_sem ↓] Go.wp_at_zero Go.wp_at_succ

abbrev set6 (w : World) (R : Nat) (u0 u1 u2 u3 u4 u5 : Value) : World := (((((w.setCell ⟨R, 0, none⟩ u0).setCell ⟨R, 1, none⟩ u1).setCell ⟨R, 2, none⟩ u2).setCell ⟨R, 3, none⟩ u3).setCell ⟨R, 4, none⟩ u4).setCell ⟨R, 5, none⟩ u5
theorem bn6 {w : World} {R : Nat} {a0 a1 a2 a3 a4 a5 : Value} (h : Bn w R [a0, a1, a2, a3, a4, a5]) (u0 u1 u2 u3 u4 u5 : Value) : Bn (set6 w R u0 u1 u2 u3 u4 u5) R [u0, u1, u2, u3, u4, u5] :=
  (((((h.set (i := 0) (by simp) u0).set (i := 1) (by simp) u1).set (i := 2) (by simp) u2).set (i := 3) (by simp) u3).set (i := 4) (by simp) u4).set (i := 5) (by simp) u5
theorem below6 {B R : Nat} {u w : World} (h : Below B u w) (hR : B ≤ R) (u0 u1 u2 u3 u4 u5 : Value) : Below B u (set6 w R u0 u1 u2 u3 u4 u5) :=
  (((((h.setCell hR u0).setCell hR u1).setCell hR u2).setCell hR u3).setCell hR u4).setCell hR u5
theorem qpart_res {w : World} {R : Nat} {a0 a1 a2 a3 a4 a5 : Value} {k : Bool} {tmps : Array Value} (hR : Bn w R [a0, a1, a2, a3, a4, a5]) (ht : tmps.getD 2 undef = .pointer (some ⟨R, 0, none⟩)) (hk : tmps.getD 3 undef = .bool k) : (results Try.f63 tmps).run Try.prog w = .ok (.tuple #[.agg #[a0, a1, a2, a3, a4, a5], .bool k]) w := by
  have c0 := (hR 0 _ rfl).1
  have c1 := (hR 1 _ rfl).1
  have c2 := (hR 2 _ rfl).1
  have c3 := (hR 3 _ rfl).1
  have c4 := (hR 4 _ rfl).1
  have c5 := (hR 5 _ rfl).1
  have ht' : tmps[2]?.getD undef = .pointer (some ⟨R, 0, none⟩) := by simpa using ht
  have hk' : tmps[3]?.getD undef = .bool k := by simpa using hk
  simp [results, Try.results63, go_sem, ht', hk', c0, c1, c2, c3, c4, c5]
/-- What part answers. -/
def PtOut (w w' : World) (n : Int) (b : List Int) (e : Ending) : Prop := ∃ (a : Option Addr) (m c : Nat) (t bg fn : Bool), e = .returned (.tuple #[.agg #[.int .i64 n, .int .i64 (b.length : Int), .slice a m c, .bool t, .bool bg, .bool fn], .bool (!(jPrsB b).wrong)]) ∧
  ((jPrsB b).wrong = false → t = (jPrsB b).torn ∧ bg = (jPrsB b).begun ∧ fn = (jPrsB b).ended ∧ OwnK w' w.heap.size 41 1 rBy (.slice a m c) (jPrsB b).recs) ∧ Below w.heap.size w w'
theorem pt_bad {w w' : World} {n : Int} {b : List Int} {a : Option Addr} {m c bl : Nat} {t bg fn : Bool} (hbl : b.length = bl) (h : (jPrsB b).wrong = true) (hb : Below w.heap.size w w') : PtOut w w' n b (.returned (.tuple #[.agg #[.int .i64 n, .int .i64 (bl : Int), .slice a m c, .bool t, .bool bg, .bool fn], .bool false])) := by
  subst hbl
  refine ⟨a, m, c, t, bg, fn, by rw [h]; rfl, fun e => ?_, hb⟩
  rw [h] at e
  cases e
theorem pt_good {w w' : World} {n : Int} {b : List Int} {a : Option Addr} {m c bl B : Nat} {t : Bool} {s : SgM} (hbl : b.length = bl) (h : (jPrsB b).wrong = false) (hs : jPrsB b = { s with torn := t }) (hO : OwnK w' B 41 1 rBy (.slice a m c) s.recs) (hB : w.heap.size ≤ B) (hb : Below w.heap.size w w') : PtOut w w' n b (.returned (.tuple #[.agg #[.int .i64 n, .int .i64 (bl : Int), .slice a m c, .bool t, .bool s.begun, .bool s.ended], .bool true])) := by
  subst hbl
  refine ⟨a, m, c, t, s.begun, s.ended, by rw [h]; rfl, fun e => ?_, hb⟩
  rw [hs]
  exact ⟨rfl, rfl, rfl, hO.low' hB⟩
theorem ownf_formE {w : World} {base e k n : Nat} {v : Value} {xs : List Value} (h : w.ownsRow base e k v n xs) : ∃ a cap, v = .slice a n cap ∧ n ≤ cap ∧ cap ≤ maxLen := by
  rcases h.2 with ⟨h1, h2⟩ | ⟨g, cap, cur, h1, _, _, h3, h4, _⟩
  · exact ⟨none, 0, by rw [h1, h2], by omega, by simp [maxLen]⟩
  · exact ⟨_, _, h1, h3, h4⟩
theorem rby_of {w : World} {lo k : Nat} {a : Option Addr} {c : Nat} {p : List Int} (hk : p.length = k) (h : w.ownsRow lo 5 1 (.slice a k c) k (p.map (Value.int .u8))) : rBy (fun b => lo ≤ b) w p [.slice a k c] := by
  subst hk
  obtain ⟨a', c', e, h2⟩ := rby_own (w := w) (lo := lo) (u := .slice a p.length c) (p := p) h
  exact h2
theorem rdBs_of {w : World} {b : Nat} {v : Value} {l : List (List Int)} (h : OwnK w b 41 1 rBy v l) : RdBs w l v := RdK.stay kp_By (h.rd kp_By) (fun b _ _ => ⟨trivial, rfl⟩)
set_option maxHeartbeats 8000000 in
theorem qpart_any {w : World} {n sn : Int} {v : Value} {b : List Int} (hr : Rd w v b) (hy : ∀ x ∈ b, 0 ≤ x ∧ x ≤ 255) (hl : b.length ≤ 1000000) :
    Calls Try.prog 63 #[.agg #[.int .i64 n, v, .int .i64 sn]] w fun e w' => PtOut w w' n b e := by
  have hrd := fun (W : World) (hb : Below w.heap.size w W) => jqread_any (rd_on hr hb) hy hl
  unfold RqOut at hrd
  have hpw := part_wrong b
  have hpk := fun h => part_ok (b := b) h
  have hps := rdQ_pos (b.length + 1) b
  have hpl := rdQ_len (b.length + 1) b
  change ∀ p ∈ (rdB b).1, _ at hps
  change (rdB b).1.length ≤ _ at hpl
  obtain ⟨o, ho⟩ : ∃ o, rdB b = o := ⟨_, rfl⟩
  rw [ho] at hrd hpw hpk hps hpl
  obtain ⟨ps, st⟩ := o
  simp only at hrd hpw hpk hps hpl
  obtain ⟨ba, bc, rfl, _, _, _⟩ := id hr
  obtain ⟨bl, hbl⟩ : ∃ k, b.length = k := ⟨_, rfl⟩
  have HBL := hideD hbl
  rw [hbl] at hl hrd hps hpl ⊢
  have HPL := hideD hpl
  have HPS := hideD hps
  have hal1 : Below w.heap.size w (w.alloc (.cells #[.int .i64 n, .slice ba bl bc, .int .i64 sn] 89)) := (Below.refl _ _).alloc (Nat.le_refl _) _
  have hs1 : (w.alloc (.cells #[.int .i64 n, .slice ba bl bc, .int .i64 sn] 89)).heap.size = w.heap.size + 1 := by simp
  have hal2 : Below w.heap.size w ((w.alloc (.cells #[.int .i64 n, .slice ba bl bc, .int .i64 sn] 89)).alloc (.cells #[.int .i64 0, .int .i64 0, .slice none 0 0, .bool false, .bool false, .bool false] 81)) := hal1.alloc (by omega) _
  have hB0 := (Bn.new w [.int .i64 n, .slice ba bl bc, .int .i64 sn] 89 _ rfl).on ((Below.refl _ (w.alloc (.cells #[.int .i64 n, .slice ba bl bc, .int .i64 sn] 89))).alloc (Nat.le_refl _) (.cells #[.int .i64 0, .int .i64 0, .slice none 0 0, .bool false, .bool false, .bool false] 81))
  have hR0 := Bn.new (w.alloc (.cells #[.int .i64 n, .slice ba bl bc, .int .i64 sn] 89)) [.int .i64 0, .int .i64 0, .slice none 0 0, .bool false, .bool false, .bool false] 81 (w.heap.size + 1) hs1.symm
  have hrd := hrd _ hal2
  obtain ⟨w1, hw1⟩ : ∃ k, (w.alloc (.cells #[.int .i64 n, .slice ba bl bc, .int .i64 sn] 89)).alloc (.cells #[.int .i64 0, .int .i64 0, .slice none 0 0, .bool false, .bool false, .bool false] 81) = k := ⟨_, rfl⟩
  rw [hw1] at hal2 hB0 hR0 hrd
  have HW1 := hideD hw1
  clear hal1 hs1 hw1 hr hy hbl hpl hps
  obtain ⟨x1, _⟩ := hB0 1 _ rfl
  go_enter Try.func63, Try.ntmps63
  go_upto_region 1 with fail
  rw [HW1.out]
  obtain ⟨Z, hZ⟩ : ∃ k, w.heap.size = k := ⟨_, rfl⟩
  have HZ := hideD hZ
  rw [hZ] at hB0 hR0 hal2 x1 ⊢
  have hRl : Z + 1 < w1.heap.size := hR0.lt
  obtain ⟨R, hR⟩ : ∃ k, Z + 1 = k := ⟨_, rfl⟩
  have HR := hideD hR
  rw [hR] at hR0 hRl ⊢
  have hZR : Z < R := by omega
  clear HW1 hZ hR
  by_cases hst : st = 2
  · have hbad : (jPrsB b).wrong = true := by rw [hpw, decide_eq_true hst]; rfl
    subst hst
    clear hpw hpk
    go_upto_region 2 with (first
      | (go_at_call 75; refine hrd.mono ?_; rintro e w2 ⟨v2, rfl, -, hv2, b2⟩; have hv2 := hv2 rfl; subst hv2; clear hrd)
      | fail)
    have hB2 := hB0.on b2
    have hR2 := hR0.on b2
    have hb2 : Below Z w w2 := hal2.trans (b2.mono (by omega))
    have hR2l := hR2.lt
    clear hB0 hR0 hal2 b2 x1
    obtain ⟨y0, _⟩ := hB2 0 _ rfl
    obtain ⟨y1, _⟩ := hB2 1 _ rfl
    obtain ⟨w3, hw3⟩ : ∃ k, w2.alloc (.cells #[.int .i64 n, .int .i64 (bl : Int), .slice none 0 0, .bool false, .bool false, .bool false] 81) = k := ⟨_, rfl⟩
    have al3 : Below w2.heap.size w2 w3 := by rw [← hw3]; exact (Below.refl _ _).alloc (Nat.le_refl _) _
    have hs3 : w3.heap.size = w2.heap.size + 1 := by rw [← hw3]; simp
    have hX3 : Bn w3 w2.heap.size [.int .i64 n, .int .i64 (bl : Int), .slice none 0 0, .bool false, .bool false, .bool false] := by rw [← hw3]; exact Bn.new w2 _ _ _ rfl
    have hR3 := hR2.on al3
    have hB3 : Below Z w w3 := hb2.trans (al3.mono (by omega))
    have HX3 := hideD hw3
    clear hw3
    go_upto_region 4 with fail
    rw [HX3.out]
    generalize hPz : w2.heap.size = P at *
    clear HX3 hPz
    go_loopw [25] (fun ix wr => ix = .int .i64 0 ∧ w3 = wr) (fun _ _ => 0)
    case atStart => exact ⟨rfl, by first | rfl | trivial⟩
    case round =>
      obtain ⟨rfl, rfl⟩ := hrel
      obtain ⟨z0, q0⟩ := hR3 0 _ rfl
      obtain ⟨z1, q1⟩ := hR3 1 _ rfl
      obtain ⟨z2, q2⟩ := hR3 2 _ rfl
      obtain ⟨z3, q3⟩ := hR3 3 _ rfl
      obtain ⟨z4, q4⟩ := hR3 4 _ rfl
      obtain ⟨z5, q5⟩ := hR3 5 _ rfl
      obtain ⟨x0, _⟩ := hX3 0 _ rfl
      obtain ⟨x1, _⟩ := hX3 1 _ rfl
      obtain ⟨x2, _⟩ := hX3 2 _ rfl
      obtain ⟨x3, _⟩ := hX3 3 _ rfl
      obtain ⟨x4, _⟩ := hX3 4 _ rfl
      obtain ⟨x5, _⟩ := hX3 5 _ rfl
      have n1 : ¬ R = P := by omega
      have n2 : ¬ P = R := by omega
      rw [← HZ.out] at hB3
      have hBR6 := bn6 hR3 (.int .i64 n) (.int .i64 (bl : Int)) (.slice none 0 0) (.bool false) (.bool false) (.bool false)
      have hBe6 := below6 hB3 (R := R) (by rw [HZ.out]; omega) (.int .i64 n) (.int .i64 (bl : Int)) (.slice none 0 0) (.bool false) (.bool false) (.bool false)
      have HOK := hideD (And.intro hBR6 (pt_bad (w := w) (n := n) (a := none) (m := 0) (c := 0) (t := false) (bg := false) (fn := false) HBL.out hbad hBe6))
      clear hBR6 hBe6 hB3 hR3 hX3
      go_wp2
      (try simp only [Exit.inBlock, Exit.then])
      refine bodyPost_ret (qpart_res HOK.out.1 rfl rfl) rfl ?_
      exact HOK.out.2
  · have hk2 : decide (st ≠ 2) = true := decide_eq_true hst
    obtain ⟨t, ht⟩ : ∃ k, decide (st = 1) = k := ⟨_, rfl⟩
    rw [hk2, ht] at hrd
    rw [ht] at hpk
    rw [decide_eq_false hst, Bool.false_or] at hpw
    obtain ⟨S, hS⟩ : ∃ k, ptQ 0 jSg0 ps = k := ⟨_, rfl⟩
    rw [hS] at hpw hpk
    have HBAD := hideD (show S.wrong = true → (jPrsB b).wrong = true from fun h => by rw [hpw, h])
    have HGOOD := hideD (show S.wrong = false → (jPrsB b).wrong = false ∧ jPrsB b = { S with torn := t } from fun h => by
      have h1 : (jPrsB b).wrong = false := by rw [hpw, h]
      exact ⟨h1, (hpk h1).2.2⟩)
    clear hpw hpk hk2 ht
    go_upto_region 2 with (first
      | (go_at_call 75; refine hrd.mono ?_; rintro e w2 ⟨v2, rfl, ho2, -, b2⟩; clear hrd)
      | fail)
    have ho2 := ho2 hst
    have hB2 := hB0.on b2
    have hR2 := hR0.on b2
    have hb2 : Below Z w w2 := hal2.trans (b2.mono (by omega))
    have hR2l := hR2.lt
    have hrb := rdBs_of ho2
    obtain ⟨pa, pc, rfl, hpc, hpm⟩ := id hrb.form
    unfold maxLen at hpm
    clear hB0 hR0 hal2 b2 x1 ho2 hst
    obtain ⟨y0, _⟩ := hB2 0 _ rfl
    obtain ⟨y1, _⟩ := hB2 1 _ rfl
    obtain ⟨w3, hw3⟩ : ∃ k, w2.alloc (.cells #[.int .i64 n, .int .i64 (bl : Int), .slice none 0 0, .bool t, .bool false, .bool false] 81) = k := ⟨_, rfl⟩
    have al3 : Below w2.heap.size w2 w3 := by rw [← hw3]; exact (Below.refl _ _).alloc (Nat.le_refl _) _
    have hs3 : w3.heap.size = w2.heap.size + 1 := by rw [← hw3]; simp
    have hX3 : Bn w3 w2.heap.size [.int .i64 n, .int .i64 (bl : Int), .slice none 0 0, .bool t, .bool false, .bool false] := by rw [← hw3]; exact Bn.new w2 _ _ _ rfl
    have hR3 := hR2.on al3
    have hB3 : Below Z w w3 := hb2.trans (al3.mono (by omega))
    have HX3 := hideD hw3
    clear hw3
    obtain ⟨m, hm⟩ : ∃ k, ps.length = k := ⟨_, rfl⟩
    have HM := hideD hm
    rw [hm] at hpc ⊢
    go_upto_region 4 with fail
    rw [HX3.out]
    obtain ⟨P, hP⟩ : ∃ k, w2.heap.size = k := ⟨_, rfl⟩
    have HP := hideD hP
    have HRB := hideD hrb
    rw [hP] at hX3 al3 hs3 hR2l ⊢
    have HR3 := hideD (show ∃ z0 z1 z2 z3 z4 z5, Bn w3 R [z0, z1, z2, z3, z4, z5] from ⟨_, _, _, _, _, _, hR3⟩)
    have H0 := hideD (show ∃ (s : SgM) (rv : Value), ptQ 0 s (ps.drop 0) = S ∧ s.wrong = false ∧ Bn w3 P [.int .i64 n, .int .i64 (bl : Int), rv, .bool t, .bool s.begun, .bool s.ended] ∧ OwnK w3 (P + 1) 41 1 rBy rv s.recs ∧ s.recs.length ≤ 0 ∧ (∃ z0 z1 z2 z3 z4 z5, Bn w3 R [z0, z1, z2, z3, z4, z5]) ∧ Below P w2 w3 ∧ P + 1 ≤ w3.heap.size from ⟨jSg0, _, hS, rfl, hX3, ownK_nil _ _ _ _ _, Nat.le_refl _, HR3.out, al3, by omega⟩)
    have HB2 := hideD hb2
    clear HX3 hP hrb hX3 al3 hs3 hR3 HR3 hB3 hb2 hS hm hB2 hR2 y0 y1
    go_loopw [25] (fun ix wr => ∃ j : Nat, j ≤ m ∧ ix = .int .i64 (j : Int) ∧ Hid (∃ (s : SgM) (rv : Value), ptQ j s (ps.drop j) = S ∧ s.wrong = false ∧ Bn wr P [.int .i64 n, .int .i64 (bl : Int), rv, .bool t, .bool s.begun, .bool s.ended] ∧ OwnK wr (P + 1) 41 1 rBy rv s.recs ∧ s.recs.length ≤ j ∧ (∃ z0 z1 z2 z3 z4 z5, Bn wr R [z0, z1, z2, z3, z4, z5]) ∧ Below P w2 wr ∧ P + 1 ≤ wr.heap.size)) (fun ix _ => m - (RowKit.intOf ix).toNat)
    case atStart => exact ⟨0, Nat.zero_le _, rfl, H0⟩
    case round =>
      obtain ⟨j, hj, rfl, HI⟩ := hrel
      clear H0
      obtain ⟨s, rv, hq, hsw, hX, hO, hrl, ⟨z0, z1, z2, z3, z4, z5, hRr⟩, hB, hsz⟩ := HI.out
      clear HI
      obtain ⟨oa, oc, rfl, _, _⟩ := id hO.form
      obtain ⟨r0, q0⟩ := hRr 0 _ rfl
      obtain ⟨r1, q1⟩ := hRr 1 _ rfl
      obtain ⟨r2, q2⟩ := hRr 2 _ rfl
      obtain ⟨r3, q3⟩ := hRr 3 _ rfl
      obtain ⟨r4, q4⟩ := hRr 4 _ rfl
      obtain ⟨r5, q5⟩ := hRr 5 _ rfl
      obtain ⟨x0, _⟩ := hX 0 _ rfl
      obtain ⟨x1, _⟩ := hX 1 _ rfl
      obtain ⟨x2, f2⟩ := hX 2 _ rfl
      obtain ⟨x3, _⟩ := hX 3 _ rfl
      obtain ⟨x4, f4⟩ := hX 4 _ rfl
      obtain ⟨x5, f5⟩ := hX 5 _ rfl
      have n1 : ¬ R = P := by omega
      have n2 : ¬ P = R := by omega
      have hRP : R < P := by omega
      have hBw : Below Z w wr := HB2.out.trans (hB.mono (by omega))
      rw [← HZ.out] at hBw
      obtain ⟨rl, hrl2⟩ : ∃ k, s.recs.length = k := ⟨_, rfl⟩
      by_cases hlt : j < m
      · have hjl : j < ps.length := by rw [HM.out]; exact hlt
        obtain ⟨g, off, ra, rc, rfl, hg, c0', hrd0⟩ := RdBs.at HRB.out hjl
        obtain ⟨hp1, hp2⟩ := HPS.out _ (List.getElem_mem hjl)
        rw [ptQ_at hjl] at hq
        obtain ⟨p, hp⟩ : ∃ k, ps[j] = k := ⟨_, rfl⟩
        rw [hp] at c0' hrd0 hp1 hp2 hq
        obtain ⟨pb, po, pcap, e, hpc2, hpm2, hcl⟩ := hrd0.lies (by omega)
        simp only [Value.slice.injEq] at e
        obtain ⟨rfl, -, rfl⟩ := e
        have d0' := hcl 0 (by omega)
        rw [Nat.add_zero] at d0'
        rw [HP.out] at hg
        have hpbl : pb < P := by rw [← HP.out]; exact World.block_lt_of_cell? _ _ d0'
        have hrw : Rd wr (.slice (some ⟨pb, po, none⟩) p.length rc) p := rd_on hrd0 (by rw [HP.out]; exact hB)
        have c0 := (hB.cell (p := ⟨g, off + j, none⟩) hg).trans c0'
        have d0 := (hB.cell (p := ⟨pb, po, none⟩) hpbl).trans d0'
        obtain ⟨qv, hqv⟩ : ∃ k, p.getD 0 0 = k := ⟨_, rfl⟩
        obtain ⟨pl, hpl⟩ : ∃ k, p.length = k := ⟨_, rfl⟩
        rw [hqv] at d0
        rw [hpl] at c0 hp1 hp2 hpc2
        have k1 : (j : Int) < (m : Int) := by omega
        have k2 : (0 : Int) ≤ (j : Int) := by omega
        have k3 : (0 : Int) < (pl : Int) := by omega
        rw [hrl2] at x2
        unfold jTk at hq
        rw [hqv, hpl] at hq
        clear c0' hcl d0' hrd0
        by_cases hq0 : qv = 0
        · subst hq0
          by_cases h1 : pl = 1
          · have hq' : ({ s with wrong := true } : SgM) = S := by rw [← hq, if_neg (by simp [h1]), if_neg (by simp), if_neg (by simp)]
            subst h1
            have hbad := HBAD.out (by rw [← hq'])
            have hBR6 := bn6 hRr (.int .i64 n) (.int .i64 (bl : Int)) (.slice oa rl oc) (.bool t) (.bool s.begun) (.bool s.ended)
            have hBe6 := below6 hBw (R := R) (by rw [HZ.out]; omega) (.int .i64 n) (.int .i64 (bl : Int)) (.slice oa rl oc) (.bool t) (.bool s.begun) (.bool s.ended)
            have HOK := hideD (And.intro hBR6 (pt_bad (w := w) (n := n) (a := oa) (m := rl) (c := oc) (t := t) (bg := s.begun) (fn := s.ended) HBL.out hbad hBe6))
            clear hBR6 hBe6 hBw hRr hX hO hq hq' hrl hrl2 hB hsw hrw hp hqv hpl hbad hjl
            generalize s.begun = sb at *
            generalize s.ended = se at *
            go_wp2
            (try simp only [Exit.inBlock, Exit.then])
            refine bodyPost_ret (qpart_res HOK.out.1 rfl rfl) rfl ?_
            exact HOK.out.2
          · have hq' : ptQ (j + 1) { s with recs := s.recs ++ [p.drop 1] } (ps.drop (j + 1)) = S := by rw [← hq, if_pos ⟨rfl, h1⟩]
            have k4 : ¬ (pl : Int) < 2 := by omega
            obtain ⟨sv, hsl1, hsr⟩ := cut_lo hpl (by rw [hpl] at hrw; exact hrw) (show 1 ≤ pl by omega) (1 : Int) rfl
            have hdl : (p.drop 1).length = pl - 1 := by rw [List.length_drop, hpl]
            have hal : Below wr.heap.size wr (wr.alloc (.cells #[] 5)).drew := ((Below.refl _ _).alloc (Nat.le_refl _) _).drew
            have hown : (wr.alloc (.cells #[] 5)).drew.ownsRow wr.heap.size 5 1 (.slice (some ⟨wr.heap.size, 0, none⟩) 0 0) 0 [] := World.ownsRow_made wr #[] 0 (Nat.le_refl _) (Nat.zero_le _) rfl
            have hsrc0 := (hsr _ (rd_on (by rw [hpl] at hrw; exact hrw) hal)).src (t := 41) (e := 5) Try.underlying41
            rw [hdl] at hsrc0
            have HS1 := hideD hsrc0
            have hgw : g < wr.heap.size := by omega
            have hPw : P < wr.heap.size := by omega
            have C1 : (wr.alloc (.cells #[] 5)).drew.cell? ⟨P, 2, none⟩ = some (.slice oa rl oc) := (hal.cell (p := ⟨P, 2, none⟩) hPw).trans x2
            have D1 : (wr.alloc (.cells #[] 5)).drew.cell? ⟨g, off + j, none⟩ = some (.slice (some ⟨pb, po, none⟩) pl rc) := (hal.cell (p := ⟨g, off + j, none⟩) hgw).trans c0
            have hga1 : ∀ (wa : World), (wr.alloc (.cells #[] 5)).drew.grownBy wa (Value.slice (some ⟨wr.heap.size, 0, none⟩) 0 0).ownBlock → Below wr.heap.size wr wa := fun wa hg => hal.grown hg (by show wr.heap.size ≤ (wr.alloc _).heap.size; simp) (fun k hk => by have : wr.heap.size = k := Option.some.inj hk; omega)
            obtain ⟨j0, hj0, hz0, hz1, hz2⟩ := u8_inf
            obtain ⟨ib, hi, hi0, hi1, hi2⟩ := inf_getJ inf_bytes
            have HRL := hideD hrl2
            have HO := hideD hO
            have HX := hideD hX
            have HRr := hideD hRr
            have HB := hideD hB
            have HQ := hideD (And.intro hq' (And.intro hsw hrl))
            have hplm : pl ≤ 1000000 := by omega
            have hrlm : s.recs.length + 1 ≤ 1000001 := by have := HPL.out; have := HM.out; omega
            clear hBw hRr hX hO hq hq' hrl hrl2 hB hsw hrw hp hqv hjl hsr hsrc0
            go_wp2
            go_region_law (first
              | (refine step_append_at _ (by rfl) (.tmp 46) (.tmp 51) 41 41 (by rfl) wr.heap.size 5 j0 (.int .u8 0) 1 1 Try.underlying41 hj0 hz0 hz1 hz2 rfl (.slice (some ⟨wr.heap.size, 0, none⟩) 0 0) 0 [] (by rfl) hown _ (pl - 1) ((p.drop 1).map (Value.int .u8)) (by rfl) HS1.out (pl - 1) (.inr (by omega)) (Nat.le_refl _) (by unfold maxLen; omega) (by show wr.heap.size ≤ (wr.alloc _).heap.size; simp) ?_; intro va wa hOa hga hata; rw [Nat.zero_add, List.nil_append] at hOa; obtain ⟨a1, ac1, rfl, hl1, hm1⟩ := ownf_formE hOa; have hba := hga1 wa hga; have C2 := (hba.cell (p := ⟨P, 2, none⟩) hPw).trans x2; have C3 := (((Below.refl wa.heap.size wa).alloc (Nat.le_refl _) (.cells #[.slice a1 (pl - 1) ac1] 41)).cell (p := ⟨P, 2, none⟩) (Nat.lt_of_lt_of_le hPw hba.size)).trans C2)
              | (rw [← HRL.out]; refine step_push wa (by rfl) (.tmp 45) (.tmp 53) 30 (by rfl) (P + 1) 41 ib (.slice none 0 0) 1 24 Try.underlying30 hi hi0 hi1 hi2 rfl kp_By (.slice oa s.recs.length oc) s.recs (p.drop 1) [.slice a1 (pl - 1) ac1] wr.heap.size (by rfl) (by rfl) rfl (by simp [Value.oneCell']) (HO.out.on kp_By hba) (rby_of hdl hOa) (by omega) (fun x hx => (ownK_blkJ HO.out x hx).2) (by omega) (by unfold maxLen; omega) (Nat.le_trans (by omega) hba.size) ?_; intro v1 wb hO1 hg1 hb1; obtain ⟨a2, c2, rfl, _, _⟩ := hO1.form; rw [List.length_append, List.length_singleton] at hO1; have hXb := (HX.out.blk (hba.block P hPw)).blk (hb1.block P (Nat.lt_succ_self P)); obtain ⟨z2, g2⟩ := hXb 2 _ rfl; have HF := hideD (And.intro hO1 (And.intro hXb (And.intro hba hb1))); clear hO1 hg1 hb1 hXb)
              | fail)
            all_goals (
              have hN := hideD (show ∃ (s' : SgM) (rv : Value), ptQ (j + 1) s' (ps.drop (j + 1)) = S ∧ s'.wrong = false ∧ Bn (wb.setCell ⟨P, 2, none⟩ (.slice a2 (s.recs.length + 1) c2)) P [.int .i64 n, .int .i64 (bl : Int), rv, .bool t, .bool s'.begun, .bool s'.ended] ∧ OwnK (wb.setCell ⟨P, 2, none⟩ (.slice a2 (s.recs.length + 1) c2)) (P + 1) 41 1 rBy rv s'.recs ∧ s'.recs.length ≤ j + 1 ∧ (∃ z0 z1 z2 z3 z4 z5, Bn (wb.setCell ⟨P, 2, none⟩ (.slice a2 (s.recs.length + 1) c2)) R [z0, z1, z2, z3, z4, z5]) ∧ Below P w2 (wb.setCell ⟨P, 2, none⟩ (.slice a2 (s.recs.length + 1) c2)) ∧ P + 1 ≤ (wb.setCell ⟨P, 2, none⟩ (.slice a2 (s.recs.length + 1) c2)).heap.size from by
                obtain ⟨y1, y2, y3, y4⟩ := HF.out
                obtain ⟨y5, y6, y7⟩ := HQ.out
                have hbw : Below P w2 wb := (HB.out.trans (y3.mono (by omega))).trans (y4.mono (by omega))
                refine ⟨{ s with recs := s.recs ++ [p.drop 1] }, .slice a2 (s.recs.length + 1) c2, y5, y6, y2.set (i := 2) (by simp) _, y1.set kp_By (X := P) (by omega) _, ?_, ⟨_, _, _, _, _, _, ((HRr.out.blk (y3.block R (by omega))).blk (y4.block R (by omega))).far n2 _⟩, hbw.setCell (Nat.le_refl _) _, ?_⟩
                · rw [List.length_append, List.length_singleton]
                  omega
                · have := y3.size
                  have := y4.size
                  simp
                  omega)
              clear HF
              go_wp2
              go_roundw
              (case rel => exact ⟨j + 1, hlt, by go_num, hN⟩)
              (case measure => simp [RowKit.intOf]; omega))
        · by_cases hq1 : qv = 1
          · subst hq1
            by_cases h1 : pl = 1
            · by_cases hj0 : j = 0
              · have hq' : ptQ (j + 1) { s with begun := true } (ps.drop (j + 1)) = S := by rw [← hq, if_neg (by simp), if_pos ⟨rfl, h1, by simp [hj0]⟩]
                have hN := hideD (show ∃ (s : SgM) (rv : Value), ptQ (j + 1) s (ps.drop (j + 1)) = S ∧ s.wrong = false ∧ Bn (wr.setCell ⟨P, 4, none⟩ (.bool true)) P [.int .i64 n, .int .i64 (bl : Int), rv, .bool t, .bool s.begun, .bool s.ended] ∧ OwnK (wr.setCell ⟨P, 4, none⟩ (.bool true)) (P + 1) 41 1 rBy rv s.recs ∧ s.recs.length ≤ j + 1 ∧ (∃ z0 z1 z2 z3 z4 z5, Bn (wr.setCell ⟨P, 4, none⟩ (.bool true)) R [z0, z1, z2, z3, z4, z5]) ∧ Below P w2 (wr.setCell ⟨P, 4, none⟩ (.bool true)) ∧ P + 1 ≤ (wr.setCell ⟨P, 4, none⟩ (.bool true)).heap.size from
                  ⟨{ s with begun := true }, _, hq', hsw, hX.set (i := 4) (by simp) (.bool true), hO.set kp_By (X := P) (by omega) _, by simp only; omega, ⟨_, _, _, _, _, _, hRr.far n2 _⟩, hB.setCell (Nat.le_refl _) _, by simp; exact hsz⟩)
                subst h1
                subst hj0
                rw [Nat.add_zero] at c0
                clear hBw hRr hX hO hq hq' hrl hrl2 hB hsw hrw hp hqv hpl hjl
                generalize s.begun = sb at *
                generalize s.ended = se at *
                go_wp2
                go_roundw
                case rel => exact ⟨0 + 1, hlt, by go_num, hN⟩
                case measure => simp [RowKit.intOf]; omega
              · have hq' : ({ s with wrong := true } : SgM) = S := by rw [← hq, if_neg (by simp), if_neg (by simp [hj0]), if_neg (by simp)]
                have k4 : ¬ (j : Int) = 0 := by omega
                subst h1
                have hbad := HBAD.out (by rw [← hq'])
                have hBR6 := bn6 hRr (.int .i64 n) (.int .i64 (bl : Int)) (.slice oa rl oc) (.bool t) (.bool s.begun) (.bool s.ended)
                have hBe6 := below6 hBw (R := R) (by rw [HZ.out]; omega) (.int .i64 n) (.int .i64 (bl : Int)) (.slice oa rl oc) (.bool t) (.bool s.begun) (.bool s.ended)
                have HOK := hideD (And.intro hBR6 (pt_bad (w := w) (n := n) (a := oa) (m := rl) (c := oc) (t := t) (bg := s.begun) (fn := s.ended) HBL.out hbad hBe6))
                clear hBR6 hBe6 hBw hRr hX hO hq hq' hrl hrl2 hB hsw hrw hp hqv hpl hbad hjl
                generalize s.begun = sb at *
                generalize s.ended = se at *
                go_wp2
                (try simp only [Exit.inBlock, Exit.then])
                refine bodyPost_ret (qpart_res HOK.out.1 rfl rfl) rfl ?_
                exact HOK.out.2
            · have hq' : ({ s with wrong := true } : SgM) = S := by rw [← hq, if_neg (by simp), if_neg (by simp [h1]), if_neg (by simp)]
              have k4 : ¬ (pl : Int) = 1 := by omega
              have hbad := HBAD.out (by rw [← hq'])
              have hBR6 := bn6 hRr (.int .i64 n) (.int .i64 (bl : Int)) (.slice oa rl oc) (.bool t) (.bool s.begun) (.bool s.ended)
              have hBe6 := below6 hBw (R := R) (by rw [HZ.out]; omega) (.int .i64 n) (.int .i64 (bl : Int)) (.slice oa rl oc) (.bool t) (.bool s.begun) (.bool s.ended)
              have HOK := hideD (And.intro hBR6 (pt_bad (w := w) (n := n) (a := oa) (m := rl) (c := oc) (t := t) (bg := s.begun) (fn := s.ended) HBL.out hbad hBe6))
              clear hBR6 hBe6 hBw hRr hX hO hq hq' hrl hrl2 hB hsw hrw hp hqv hpl hbad hjl
              generalize s.begun = sb at *
              generalize s.ended = se at *
              go_wp2
              (try simp only [Exit.inBlock, Exit.then])
              refine bodyPost_ret (qpart_res HOK.out.1 rfl rfl) rfl ?_
              exact HOK.out.2
          · by_cases hq2 : qv = 2
            · subst hq2
              by_cases h1 : pl = 1
              · by_cases hbg : s.begun = true
                · by_cases hen : s.ended = true
                  · have hq' : ({ s with wrong := true } : SgM) = S := by rw [← hq, if_neg (by simp), if_neg (by simp), if_neg (by simp [hen])]
                    subst h1
                    have hbad := HBAD.out (by rw [← hq'])
                    have hBR6 := bn6 hRr (.int .i64 n) (.int .i64 (bl : Int)) (.slice oa rl oc) (.bool t) (.bool s.begun) (.bool s.ended)
                    have hBe6 := below6 hBw (R := R) (by rw [HZ.out]; omega) (.int .i64 n) (.int .i64 (bl : Int)) (.slice oa rl oc) (.bool t) (.bool s.begun) (.bool s.ended)
                    have HOK := hideD (And.intro hBR6 (pt_bad (w := w) (n := n) (a := oa) (m := rl) (c := oc) (t := t) (bg := s.begun) (fn := s.ended) HBL.out hbad hBe6))
                    clear hBR6 hBe6 hBw hRr hX hO hq hq' hrl hrl2 hB hsw hrw hp hqv hpl hbad hjl
                    generalize s.begun = sb at *
                    generalize s.ended = se at *
                    subst hbg
                    subst hen
                    go_wp2
                    (try simp only [Exit.inBlock, Exit.then])
                    refine bodyPost_ret (qpart_res HOK.out.1 rfl rfl) rfl ?_
                    exact HOK.out.2
                  · have hen2 : s.ended = false := by simpa using hen
                    have hq' : ptQ (j + 1) { s with ended := true } (ps.drop (j + 1)) = S := by rw [← hq, if_neg (by simp), if_neg (by simp), if_pos ⟨rfl, h1, hbg, hen2⟩]
                    have hN := hideD (show ∃ (s : SgM) (rv : Value), ptQ (j + 1) s (ps.drop (j + 1)) = S ∧ s.wrong = false ∧ Bn (wr.setCell ⟨P, 5, none⟩ (.bool true)) P [.int .i64 n, .int .i64 (bl : Int), rv, .bool t, .bool s.begun, .bool s.ended] ∧ OwnK (wr.setCell ⟨P, 5, none⟩ (.bool true)) (P + 1) 41 1 rBy rv s.recs ∧ s.recs.length ≤ j + 1 ∧ (∃ z0 z1 z2 z3 z4 z5, Bn (wr.setCell ⟨P, 5, none⟩ (.bool true)) R [z0, z1, z2, z3, z4, z5]) ∧ Below P w2 (wr.setCell ⟨P, 5, none⟩ (.bool true)) ∧ P + 1 ≤ (wr.setCell ⟨P, 5, none⟩ (.bool true)).heap.size from
                      ⟨{ s with ended := true }, _, hq', hsw, hX.set (i := 5) (by simp) (.bool true), hO.set kp_By (X := P) (by omega) _, by simp only; omega, ⟨_, _, _, _, _, _, hRr.far n2 _⟩, hB.setCell (Nat.le_refl _) _, by simp; exact hsz⟩)
                    subst h1
                    rw [hbg] at x4
                    rw [hen2] at x5
                    clear hBw hRr hX hO hq hq' hrl hrl2 hB hsw hrw hp hqv hpl hjl hbg hen hen2
                    go_wp2
                    go_roundw
                    case rel => exact ⟨j + 1, hlt, by go_num, hN⟩
                    case measure => simp [RowKit.intOf]; omega
                · have hq' : ({ s with wrong := true } : SgM) = S := by rw [← hq, if_neg (by simp), if_neg (by simp), if_neg (by simp [hbg])]
                  subst h1
                  have hbad := HBAD.out (by rw [← hq'])
                  have hBR6 := bn6 hRr (.int .i64 n) (.int .i64 (bl : Int)) (.slice oa rl oc) (.bool t) (.bool s.begun) (.bool s.ended)
                  have hBe6 := below6 hBw (R := R) (by rw [HZ.out]; omega) (.int .i64 n) (.int .i64 (bl : Int)) (.slice oa rl oc) (.bool t) (.bool s.begun) (.bool s.ended)
                  have HOK := hideD (And.intro hBR6 (pt_bad (w := w) (n := n) (a := oa) (m := rl) (c := oc) (t := t) (bg := s.begun) (fn := s.ended) HBL.out hbad hBe6))
                  clear hBR6 hBe6 hBw hRr hX hO hq hq' hrl hrl2 hB hsw hrw hp hqv hpl hbad hjl
                  generalize s.begun = sb at *
                  generalize s.ended = se at *
                  have hbg2 : sb = false := by simpa using hbg
                  clear hbg
                  subst hbg2
                  go_wp2
                  (try simp only [Exit.inBlock, Exit.then])
                  refine bodyPost_ret (qpart_res HOK.out.1 rfl rfl) rfl ?_
                  exact HOK.out.2
              · have hq' : ({ s with wrong := true } : SgM) = S := by rw [← hq, if_neg (by simp), if_neg (by simp), if_neg (by simp [h1])]
                have k4 : ¬ (pl : Int) = 1 := by omega
                have hbad := HBAD.out (by rw [← hq'])
                have hBR6 := bn6 hRr (.int .i64 n) (.int .i64 (bl : Int)) (.slice oa rl oc) (.bool t) (.bool s.begun) (.bool s.ended)
                have hBe6 := below6 hBw (R := R) (by rw [HZ.out]; omega) (.int .i64 n) (.int .i64 (bl : Int)) (.slice oa rl oc) (.bool t) (.bool s.begun) (.bool s.ended)
                have HOK := hideD (And.intro hBR6 (pt_bad (w := w) (n := n) (a := oa) (m := rl) (c := oc) (t := t) (bg := s.begun) (fn := s.ended) HBL.out hbad hBe6))
                clear hBR6 hBe6 hBw hRr hX hO hq hq' hrl hrl2 hB hsw hrw hp hqv hpl hbad hjl
                generalize s.begun = sb at *
                generalize s.ended = se at *
                go_wp2
                (try simp only [Exit.inBlock, Exit.then])
                refine bodyPost_ret (qpart_res HOK.out.1 rfl rfl) rfl ?_
                exact HOK.out.2
            · have hq' : ({ s with wrong := true } : SgM) = S := by rw [← hq, if_neg (by simp [hq0]), if_neg (by simp [hq1]), if_neg (by simp [hq2])]
              have hbad := HBAD.out (by rw [← hq'])
              have hBR6 := bn6 hRr (.int .i64 n) (.int .i64 (bl : Int)) (.slice oa rl oc) (.bool t) (.bool s.begun) (.bool s.ended)
              have hBe6 := below6 hBw (R := R) (by rw [HZ.out]; omega) (.int .i64 n) (.int .i64 (bl : Int)) (.slice oa rl oc) (.bool t) (.bool s.begun) (.bool s.ended)
              have HOK := hideD (And.intro hBR6 (pt_bad (w := w) (n := n) (a := oa) (m := rl) (c := oc) (t := t) (bg := s.begun) (fn := s.ended) HBL.out hbad hBe6))
              clear hBR6 hBe6 hBw hRr hX hO hq hq' hrl hrl2 hB hsw hrw hp hqv hpl hbad hjl
              generalize s.begun = sb at *
              generalize s.ended = se at *
              go_wp2
              (try simp only [Exit.inBlock, Exit.then])
              refine bodyPost_ret (qpart_res HOK.out.1 rfl rfl) rfl ?_
              exact HOK.out.2
      · have k1 : ¬ (j : Int) < (m : Int) := by omega
        have e : ps.drop j = [] := List.drop_eq_nil_of_le (by rw [HM.out]; omega)
        rw [e] at hq
        have hq : s = S := hq
        obtain ⟨g1, g2⟩ := HGOOD.out (by rw [← hq]; exact hsw)
        rw [← hq] at g2
        have hBR6 := bn6 hRr (.int .i64 n) (.int .i64 (bl : Int)) (.slice oa s.recs.length oc) (.bool t) (.bool s.begun) (.bool s.ended)
        have hBe6 := below6 hBw (R := R) (by rw [HZ.out]; omega) (.int .i64 n) (.int .i64 (bl : Int)) (.slice oa s.recs.length oc) (.bool t) (.bool s.begun) (.bool s.ended)
        have hO6 : OwnK (set6 wr R (.int .i64 n) (.int .i64 (bl : Int)) (.slice oa s.recs.length oc) (.bool t) (.bool s.begun) (.bool s.ended)) (P + 1) 41 1 rBy (.slice oa s.recs.length oc) s.recs := (((((hO.set kp_By (X := R) (by omega) _).set kp_By (X := R) (by omega) _).set kp_By (X := R) (by omega) _).set kp_By (X := R) (by omega) _).set kp_By (X := R) (by omega) _).set kp_By (X := R) (by omega) _
        have HOK := hideD (And.intro hBR6 (pt_good (w := w) (n := n) HBL.out g1 g2 hO6 (by rw [HZ.out]; omega) hBe6))
        rw [hrl2] at HOK x2
        clear hBR6 hBe6 hO6 hBw hRr hX hO hq e g1 g2 hrl hrl2 hB hsw
        generalize s.begun = sb at *
        generalize s.ended = se at *
        go_wp2
        (try simp only [Exit.inBlock, Exit.then])
        refine bodyPost_ret (qpart_res HOK.out.1 rfl rfl) rfl ?_
        exact HOK.out.2

theorem below_dn {B : Nat} {a b : World} (h : Below B a b) (k : Nat) : Below B a (b.drewN k) := ⟨h.os, h.tape, h.output, h.size, h.block⟩
def nmQ (L : List SgT) (i : Nat) : Int := (L.map (·.1)).getD i 0
/-- What is wrong with the segment i. -/
def badQ (L : List SgT) (i : Nat) : Bool := match L[i]? with
  | none => false
  | some x => x.2.2.wrong || (decide (0 < i) && decide (nmQ L (i - 1) ≠ wrap64 (x.1 - 1))) || (unfB x.2.2 && decide (i + 1 < L.length))
def okQ (L : List SgT) : Bool := (List.range L.length).all (fun i => !badQ L i)
theorem okQ_no {L : List SgT} {i : Nat} (hi : i < L.length) (h : badQ L i = true) : okQ L = false := by
  unfold okQ
  rw [List.all_eq_false]
  exact ⟨i, List.mem_range.2 hi, by simp [h]⟩
theorem okQ_yes {L : List SgT} (h : ∀ i, i < L.length → badQ L i = false) : okQ L = true := by
  unfold okQ
  rw [List.all_eq_true]
  intro i hi
  rw [h i (List.mem_range.1 hi)]
  rfl
theorem badQ_at {L : List SgT} {i : Nat} (hi : i < L.length) : badQ L i = ((L[i]).2.2.wrong || (decide (0 < i) && decide (nmQ L (i - 1) ≠ wrap64 ((L[i]).1 - 1))) || (unfB (L[i]).2.2 && decide (i + 1 < L.length))) := by
  unfold badQ
  rw [List.getElem?_eq_getElem hi]
/-- A part in memory. -/
def rPt (ok : Nat → Prop) (w : World) (x : SgT) (cs : List Value) : Prop := ∃ rv, cs = [.int .i64 x.1, .int .i64 (x.2.1 : Int), rv, .bool x.2.2.torn, .bool x.2.2.begun, .bool x.2.2.ended] ∧ RdK ok w 1 (rBy ok w) x.2.2.recs rv
theorem kp_Pt : Kp rPt := by
  intro ok ok' w w' x cs h hk
  obtain ⟨rv, h1, h2⟩ := h
  exact ⟨rv, h1, h2.stay kp_By hk⟩
theorem inf_part : (Try.prog.info? 81).map (fun i => (i.zero, i.size, i.bytes)) = some (some (.agg #[.int .i64 0, .int .i64 0, .slice none 0 0, .bool false, .bool false, .bool false]), 6, 48) := by kernel_rfl
def PsOut (w w' : World) (L : List SgT) (e : Ending) : Prop := ∃ v, e = .returned (.tuple #[v, .bool (okQ L)]) ∧ (okQ L = true → OwnK w' w.heap.size 81 6 rPt v L) ∧ Below w.heap.size w w'
set_option maxHeartbeats 16000000 in
theorem qparts_any {w : World} {Y n0 : Nat} {G : Nat → Prop} {d : Dk} {Lv : Value} {E : List (Int × Sv)} (h : QDE w Y G d Lv E) (ok : Ok d n0 1000000) (hn0 : n0 ≤ 100000) (hby : ByD d) :
    Calls Try.prog 35 #[.pointer (some ⟨Y, 0, none⟩)] w fun e w' => PsOut w w' (sgsM d.L) e := by
  obtain ⟨g1, g2, g3, g4⟩ := id h
  obtain ⟨c0, f0⟩ := g4 0 _ rfl
  have hYl := g4.lt
  obtain ⟨la, lc, rfl, hlc, hlm⟩ := id g3.form
  unfold maxLen at hlm
  have hEl : E.length = d.L.length := by rw [← g2]; simp [mmE]
  have hSl : (sgsM d.L).length = d.L.length := by simp [sgsM]
  obtain ⟨N, hN⟩ : ∃ k, d.L.length = k := ⟨_, rfl⟩
  rw [hN] at hEl hSl
  have hN1 : N ≤ 100000 := by have := ok.len; omega
  have HEL := hideD hEl
  have HSL := hideD hSl
  have HN := hideD hN
  have HG := hideD g3
  have HM := hideD g2
  have HOK := hideD ok
  have HBY := hideD hby
  obtain ⟨io, hio, hio0, hio1, hio2⟩ := inf_getJ inf_part
  rw [hEl] at c0 hlc
  have H0 := hideD (show OwnK w w.heap.size 81 6 rPt (.slice none 0 0) ((sgsM d.L).take 0) ∧ Below w.heap.size w w ∧ ∀ i, i < 0 → badQ (sgsM d.L) i = false from ⟨ownK_nil _ _ _ _ _, Below.refl _ _, fun i hi => by omega⟩)
  clear h g2 g3 g4 ok hby hN hEl hSl
  go_enter Try.func35, Try.ntmps35
  go_wp2
  go_loopw [4, 13] (fun ov ix wr => ∃ (j : Nat), j ≤ N ∧ ix = .int .i64 (j : Int) ∧ Hid (OwnK wr w.heap.size 81 6 rPt ov ((sgsM d.L).take j) ∧ Below w.heap.size w wr ∧ ∀ i, i < j → badQ (sgsM d.L) i = false)) (fun _ ix _ => N - (RowKit.intOf ix).toNat)
  case atStart => exact ⟨0, Nat.zero_le _, rfl, H0⟩
  case round =>
    clear H0
    obtain ⟨j, hj, rfl, HI⟩ := hrel
    obtain ⟨hO, hB, hbd⟩ := HI.out
    clear HI
    obtain ⟨oa, oc, rfl, _, _⟩ := id hO.form
    have hy0 := (hB.cell (p := ⟨Y, 0, none⟩) hYl).trans c0
    by_cases hlt : j < N
    · have hjE : j < E.length := by rw [HEL.out]; exact hlt
      have hjS : j < (sgsM d.L).length := by rw [HSL.out]; exact hlt
      have hjD : j < d.L.length := by rw [HN.out]; exact hlt
      obtain ⟨g, cap, e, _, _, hgl, k0, k1, k2⟩ := QR.at HG.out hjE
      simp only [Value.slice.injEq] at e
      obtain ⟨rfl, -, rfl⟩ := e
      obtain ⟨ho, -⟩ := HG.out.s _ (List.getElem_mem hjE)
      have c1 := (hB.cell (p := ⟨g, j * 3, none⟩) hgl).trans k0
      have c2 := (hB.cell (p := ⟨g, j * 3 + 1, none⟩) hgl).trans k1
      have c3 := (hB.cell (p := ⟨g, j * 3 + 2, none⟩) hgl).trans k2
      have hde : d.L[j] = ((E[j]).1, (E[j]).2.2) := by
        have : (mmE E)[j]'(by simpa [mmE] using hjE) = d.L[j] := by simp only [HM.out]
        rw [← this]
        simp [mmE]
      have hbs := HBY.out _ (List.getElem_mem hjD)
      have hbl := Nat.le_trans (usM_mem (List.getElem_mem hjD)) HOK.out.us
      have hse : (sgsM d.L)[j] = ((d.L[j]).1, (d.L[j]).2.1.length, jPrsB (d.L[j]).2.1) := by simp [sgsM]
      have hba := badQ_at hjS
      rw [hse] at hba
      rw [hde] at hbs hbl hba hse
      obtain ⟨y, hyE⟩ : ∃ y, E[j] = y := ⟨_, rfl⟩
      rw [hyE] at c1 c2 c3 hbs hbl hba ho hse
      obtain ⟨nn, sv, sb, sn⟩ := y
      simp only at c1 c2 c3 hbs hbl hba ho hse
      have hpt := qpart_any (w := wr) (n := nn) (sn := (sn : Int)) (rd_on ho.rd hB) hbs hbl
      have htk : (sgsM d.L).take (j + 1) = (sgsM d.L).take j ++ [(nn, sb.length, jPrsB sb)] := by rw [List.take_succ_eq_append_getElem hjS, hse]
      obtain ⟨sa, sc, rfl, _, _⟩ := slice_form ho
      have i1 : (j : Int) < (N : Int) := by omega
      have i2 : (0 : Int) ≤ (j : Int) := by omega
      have HC := hideD (And.intro k0 (And.intro hyE (And.intro hde (And.intro htk (And.intro hbd hba)))))
      obtain ⟨ol, hol⟩ : ∃ k, ((sgsM d.L).take j).length = k := ⟨_, rfl⟩
      have hol2 : ol ≤ 100000 := by rw [← hol, List.length_take]; omega
      rw [hol] at hO ⊢
      have HO := hideD hO
      have HB := hideD hB
      have HOL := hideD hol
      clear k0 k1 k2 hyE hde htk hse hbd hba hO hB ho hol hbs
      by_cases hj0 : j = 0
      · subst hj0
        rw [Nat.zero_mul] at c1
        rw [Nat.zero_mul, Nat.zero_add] at c2 c3
        unfold PtOut at hpt
        obtain ⟨W, hW⟩ : ∃ k, (jPrsB sb).wrong = k := ⟨_, rfl⟩
        obtain ⟨sbg, hsbg⟩ : ∃ k, (jPrsB sb).begun = k := ⟨_, rfl⟩
        obtain ⟨sfn, hsfn⟩ : ∃ k, (jPrsB sb).ended = k := ⟨_, rfl⟩
        obtain ⟨stn, hstn⟩ : ∃ k, (jPrsB sb).torn = k := ⟨_, rfl⟩
        rw [hW, hsbg, hsfn, hstn] at hpt
        have hba := HC.out.2.2.2.2.2
        have hun : unfB (jPrsB sb) = (sbg && !sfn) := by unfold unfB; rw [hsbg, hsfn]
        rw [hW, hun] at hba
        cases W with
        | true =>
          have hbad : badQ (sgsM d.L) 0 = true := by rw [hba]; rfl
          clear hba hun hW hsbg hsfn hstn
          go_upto_region 6 with (first
            | (go_at_call 63; refine hpt.mono ?_; rintro e w4 ⟨pa, pm, pc, t, bg, fn, rfl, himp, b4⟩; clear hpt himp)
            | fail)
          obtain ⟨w5, hw5⟩ : ∃ k, w4.alloc (.cells #[.int .i64 nn, .int .i64 (sb.length : Int), .slice pa pm pc, .bool t, .bool bg, .bool fn] 81) = k := ⟨_, rfl⟩
          have al5 : Below w4.heap.size w4 w5 := by rw [← hw5]; exact (Below.refl _ _).alloc (Nat.le_refl _) _
          have hX5 : Bn w5 w4.heap.size [.int .i64 nn, .int .i64 (sb.length : Int), .slice pa pm pc, .bool t, .bool bg, .bool fn] := by rw [← hw5]; exact Bn.new w4 _ _ _ rfl
          have b5 : Below wr.heap.size wr w5 := b4.trans (al5.mono b4.size)
          have hYr : Y < wr.heap.size := Nat.lt_of_lt_of_le hYl HB.out.size
          have hgr : g < wr.heap.size := Nat.lt_of_lt_of_le hgl HB.out.size
          have y5 := (b5.cell (p := ⟨Y, 0, none⟩) hYr).trans hy0
          obtain ⟨q3, _⟩ := hX5 3 _ rfl
          obtain ⟨q4, _⟩ := hX5 4 _ rfl
          obtain ⟨q5, _⟩ := hX5 5 _ rfl
          rw [hw5]
          have HB5 := hideD (HB.out.trans (b5.mono HB.out.size))
          have H5 := hideD (And.intro b4 (And.intro al5 b5))
          clear hw5 al5 b4 b5
          have HBD := hideD (okQ_no hjS hbad)
          clear hbad
          go_wp2
          go_quiet (fail)
          go_wp2
          go_ret2
          exact ⟨_, congrArg (fun k => Ending.returned (.tuple #[_, .bool k])) HBD.out.symm, fun h => (by rw [HBD.out] at h; cases h), below_dn HB5.out _⟩
        | false =>
          have HS := hideD (And.intro hW (And.intro hsbg (And.intro hsfn hstn)))
          rw [HSL.out] at hba
          clear hun hW hsbg hsfn hstn
          go_upto_region 6 with (first
            | (go_at_call 63; refine hpt.mono ?_; rintro e w4 ⟨pa, pm, pc, t, bg, fn, rfl, himp, b4⟩; obtain ⟨ht, hbg, hfn, hOw⟩ := himp rfl; subst ht hbg hfn; clear hpt himp)
            | fail)
          obtain ⟨w5, hw5⟩ : ∃ k, w4.alloc (.cells #[.int .i64 nn, .int .i64 (sb.length : Int), .slice pa pm pc, .bool t, .bool bg, .bool fn] 81) = k := ⟨_, rfl⟩
          have al5 : Below w4.heap.size w4 w5 := by rw [← hw5]; exact (Below.refl _ _).alloc (Nat.le_refl _) _
          have hX5 : Bn w5 w4.heap.size [.int .i64 nn, .int .i64 (sb.length : Int), .slice pa pm pc, .bool t, .bool bg, .bool fn] := by rw [← hw5]; exact Bn.new w4 _ _ _ rfl
          have b5 : Below wr.heap.size wr w5 := b4.trans (al5.mono b4.size)
          have hYr : Y < wr.heap.size := Nat.lt_of_lt_of_le hYl HB.out.size
          have hgr : g < wr.heap.size := Nat.lt_of_lt_of_le hgl HB.out.size
          have y5 := (b5.cell (p := ⟨Y, 0, none⟩) hYr).trans hy0
          obtain ⟨q3, _⟩ := hX5 3 _ rfl
          obtain ⟨q4, _⟩ := hX5 4 _ rfl
          obtain ⟨q5, _⟩ := hX5 5 _ rfl
          rw [hw5]
          have HB5 := hideD (HB.out.trans (b5.mono HB.out.size))
          have H5 := hideD (And.intro b4 (And.intro al5 b5))
          clear hw5 al5 b4 b5

          cases bg with
          | false =>
            have hgood : badQ (sgsM d.L) 0 = false := by rw [hba]; simp []
            clear hba
            have HGD := hideD hgood
            have HOW := hideD hOw
            have HX5 := hideD hX5
            obtain ⟨q0, _⟩ := hX5 0 _ rfl
            obtain ⟨q1, _⟩ := hX5 1 _ rfl
            obtain ⟨q2, _⟩ := hX5 2 _ rfl
            clear hgood hOw hX5
            have hO5 : ∀ k, OwnK (w5.drewN k) w.heap.size 81 6 rPt (.slice oa ol oc) ((sgsM d.L).take 0) := fun k => (HO.out.on kp_Pt H5.out.2.2).on kp_Pt ⟨rfl, rfl, rfl, Nat.le_refl _, fun _ _ => rfl⟩
            have hR5 : ∀ k, rPt (fun b => wr.heap.size ≤ b) (w5.drewN k) (nn, sb.length, jPrsB sb) [.int .i64 nn, .int .i64 (sb.length : Int), .slice pa pm pc, .bool t, .bool false, .bool fn] := fun k => ⟨_, by rw [HS.out.2.1, HS.out.2.2.1, HS.out.2.2.2], ((HOW.out.on kp_By H5.out.2.1).on kp_By (w' := w5.drewN k) ⟨rfl, rfl, rfl, Nat.le_refl _, fun _ _ => rfl⟩).rd kp_By⟩
            have hs5 : w.heap.size ≤ w5.heap.size := HB5.out.size
            go_wp2
            go_quiet (fail)
            go_wp2_with (first
              | (at_builtin; refine wpList_pushJ (w5.drewN _) rfl _ _ 51 rfl w.heap.size 81 io (.agg #[.int .i64 0, .int .i64 0, .slice none 0 0, .bool false, .bool false, .bool false]) 6 48 Try.underlying51 hio hio0 hio1 hio2 rfl kp_Pt (.slice oa ol oc) ((sgsM d.L).take 0) (nn, sb.length, jPrsB sb) [.int .i64 nn, .int .i64 (sb.length : Int), .slice pa pm pc, .bool t, .bool false, .bool fn] wr.heap.size rfl rfl rfl (by simp [Value.oneCell']) (hO5 _) (hR5 _) HB.out.size (fun x hx => ((ownK_lt HO.out) x hx).2) (by rw [HOL.out]; omega) (by unfold maxLen; rw [HOL.out]; omega) hs5 ?_; intro vb wb hOb hgb hbb; have HOB := hideD (And.intro hOb hbb); clear hOb hgb hbb hO5 hR5)
              | fail)
            go_roundw
            case rel =>
              refine ⟨0 + 1, hlt, by go_num, hideD ⟨by rw [HC.out.2.2.2.1]; exact HOB.out.1, (below_dn HB5.out _).trans HOB.out.2, fun i hi => ?_⟩⟩
              by_cases e : i = 0
              · rw [e]
                exact HGD.out
              · exact HC.out.2.2.2.2.1 i (by omega)
            case measure => simp [RowKit.intOf]; omega
          | true =>
            cases fn with
            | true =>
              have hgood : badQ (sgsM d.L) 0 = false := by rw [hba]; simp []
              clear hba
              have HGD := hideD hgood
              have HOW := hideD hOw
              have HX5 := hideD hX5
              obtain ⟨q0, _⟩ := hX5 0 _ rfl
              obtain ⟨q1, _⟩ := hX5 1 _ rfl
              obtain ⟨q2, _⟩ := hX5 2 _ rfl
              clear hgood hOw hX5
              have hO5 : ∀ k, OwnK (w5.drewN k) w.heap.size 81 6 rPt (.slice oa ol oc) ((sgsM d.L).take 0) := fun k => (HO.out.on kp_Pt H5.out.2.2).on kp_Pt ⟨rfl, rfl, rfl, Nat.le_refl _, fun _ _ => rfl⟩
              have hR5 : ∀ k, rPt (fun b => wr.heap.size ≤ b) (w5.drewN k) (nn, sb.length, jPrsB sb) [.int .i64 nn, .int .i64 (sb.length : Int), .slice pa pm pc, .bool t, .bool true, .bool true] := fun k => ⟨_, by rw [HS.out.2.1, HS.out.2.2.1, HS.out.2.2.2], ((HOW.out.on kp_By H5.out.2.1).on kp_By (w' := w5.drewN k) ⟨rfl, rfl, rfl, Nat.le_refl _, fun _ _ => rfl⟩).rd kp_By⟩
              have hs5 : w.heap.size ≤ w5.heap.size := HB5.out.size
              go_wp2
              go_quiet (fail)
              go_wp2_with (first
                | (at_builtin; refine wpList_pushJ (w5.drewN _) rfl _ _ 51 rfl w.heap.size 81 io (.agg #[.int .i64 0, .int .i64 0, .slice none 0 0, .bool false, .bool false, .bool false]) 6 48 Try.underlying51 hio hio0 hio1 hio2 rfl kp_Pt (.slice oa ol oc) ((sgsM d.L).take 0) (nn, sb.length, jPrsB sb) [.int .i64 nn, .int .i64 (sb.length : Int), .slice pa pm pc, .bool t, .bool true, .bool true] wr.heap.size rfl rfl rfl (by simp [Value.oneCell']) (hO5 _) (hR5 _) HB.out.size (fun x hx => ((ownK_lt HO.out) x hx).2) (by rw [HOL.out]; omega) (by unfold maxLen; rw [HOL.out]; omega) hs5 ?_; intro vb wb hOb hgb hbb; have HOB := hideD (And.intro hOb hbb); clear hOb hgb hbb hO5 hR5)
                | fail)
              go_roundw
              case rel =>
                refine ⟨0 + 1, hlt, by go_num, hideD ⟨by rw [HC.out.2.2.2.1]; exact HOB.out.1, (below_dn HB5.out _).trans HOB.out.2, fun i hi => ?_⟩⟩
                by_cases e : i = 0
                · rw [e]
                  exact HGD.out
                · exact HC.out.2.2.2.2.1 i (by omega)
              case measure => simp [RowKit.intOf]; omega
            | false =>
              by_cases hl : 0 + 1 < N
              · have hbad : badQ (sgsM d.L) 0 = true := by rw [hba]; simp [hl]
                have hl2 : (0 : Int) < (N : Int) - 1 := by omega
                clear hba
                have HBD := hideD (okQ_no hjS hbad)
                clear hbad
                go_wp2
                go_quiet (fail)
                go_wp2
                go_ret2
                exact ⟨_, congrArg (fun k => Ending.returned (.tuple #[_, .bool k])) HBD.out.symm, fun h => (by rw [HBD.out] at h; cases h), below_dn HB5.out _⟩
              · have hgood : badQ (sgsM d.L) 0 = false := by rw [hba]; simp [hl]
                have hl2 : ¬ (0 : Int) < (N : Int) - 1 := by omega
                clear hba hl
                have HGD := hideD hgood
                have HOW := hideD hOw
                have HX5 := hideD hX5
                obtain ⟨q0, _⟩ := hX5 0 _ rfl
                obtain ⟨q1, _⟩ := hX5 1 _ rfl
                obtain ⟨q2, _⟩ := hX5 2 _ rfl
                clear hgood hOw hX5
                have hO5 : ∀ k, OwnK (w5.drewN k) w.heap.size 81 6 rPt (.slice oa ol oc) ((sgsM d.L).take 0) := fun k => (HO.out.on kp_Pt H5.out.2.2).on kp_Pt ⟨rfl, rfl, rfl, Nat.le_refl _, fun _ _ => rfl⟩
                have hR5 : ∀ k, rPt (fun b => wr.heap.size ≤ b) (w5.drewN k) (nn, sb.length, jPrsB sb) [.int .i64 nn, .int .i64 (sb.length : Int), .slice pa pm pc, .bool t, .bool true, .bool false] := fun k => ⟨_, by rw [HS.out.2.1, HS.out.2.2.1, HS.out.2.2.2], ((HOW.out.on kp_By H5.out.2.1).on kp_By (w' := w5.drewN k) ⟨rfl, rfl, rfl, Nat.le_refl _, fun _ _ => rfl⟩).rd kp_By⟩
                have hs5 : w.heap.size ≤ w5.heap.size := HB5.out.size
                go_wp2
                go_quiet (fail)
                go_wp2_with (first
                  | (at_builtin; refine wpList_pushJ (w5.drewN _) rfl _ _ 51 rfl w.heap.size 81 io (.agg #[.int .i64 0, .int .i64 0, .slice none 0 0, .bool false, .bool false, .bool false]) 6 48 Try.underlying51 hio hio0 hio1 hio2 rfl kp_Pt (.slice oa ol oc) ((sgsM d.L).take 0) (nn, sb.length, jPrsB sb) [.int .i64 nn, .int .i64 (sb.length : Int), .slice pa pm pc, .bool t, .bool true, .bool false] wr.heap.size rfl rfl rfl (by simp [Value.oneCell']) (hO5 _) (hR5 _) HB.out.size (fun x hx => ((ownK_lt HO.out) x hx).2) (by rw [HOL.out]; omega) (by unfold maxLen; rw [HOL.out]; omega) hs5 ?_; intro vb wb hOb hgb hbb; have HOB := hideD (And.intro hOb hbb); clear hOb hgb hbb hO5 hR5)
                  | fail)
                go_roundw
                case rel =>
                  refine ⟨0 + 1, hlt, by go_num, hideD ⟨by rw [HC.out.2.2.2.1]; exact HOB.out.1, (below_dn HB5.out _).trans HOB.out.2, fun i hi => ?_⟩⟩
                  by_cases e : i = 0
                  · rw [e]
                    exact HGD.out
                  · exact HC.out.2.2.2.2.1 i (by omega)
                case measure => simp [RowKit.intOf]; omega
      · obtain ⟨j', rfl⟩ : ∃ k, j = k + 1 := ⟨j - 1, by omega⟩
        have hjE' : j' < E.length := by omega
        obtain ⟨g', cap', e, _, _, hgl', k0', -, -⟩ := QR.at HG.out hjE'
        simp only [Value.slice.injEq, Option.some.injEq, Addr.mk.injEq] at e
        obtain ⟨⟨rfl, -⟩, -, rfl⟩ := e
        have p0 := (HB.out.cell (p := ⟨g, j' * 3, none⟩) hgl').trans k0'
        have hpn : (E[j']).1 = nmQ (sgsM d.L) j' := by
          have hjD' : j' < d.L.length := by omega
          have h1 : (mmE E)[j']'(by simpa [mmE] using hjE') = d.L[j'] := by simp only [HM.out]
          unfold nmQ sgsM
          rw [List.map_map]
          simp only [List.getD_eq_getElem?_getD, List.getElem?_map, List.getElem?_eq_getElem hjD', Option.map_some, Option.getD_some, Function.comp]
          rw [← h1]
          simp [mmE]
        obtain ⟨pn, hpn2⟩ : ∃ k, nmQ (sgsM d.L) j' = k := ⟨_, rfl⟩
        rw [hpn, hpn2] at p0
        have HPN := hideD hpn2
        clear hpn hpn2 k0' hjE'
        have i4 : (j' : Int) + 1 > 0 := by omega
        have i5 : IntKind.i64.wrap (j' : Int) = (j' : Int) := by rw [IntKind.wrap_i64]; omega
        have i6 : (0 : Int) ≤ (j' : Int) := by omega
        have i7 : (j' : Int) < (N : Int) := by omega
        have i8 : (j' : Int) + 1 < (N : Int) := by omega
        have i9 : (0 : Int) ≤ (j' : Int) + 1 := by omega
        unfold PtOut at hpt
        obtain ⟨W, hW⟩ : ∃ k, (jPrsB sb).wrong = k := ⟨_, rfl⟩
        obtain ⟨sbg, hsbg⟩ : ∃ k, (jPrsB sb).begun = k := ⟨_, rfl⟩
        obtain ⟨sfn, hsfn⟩ : ∃ k, (jPrsB sb).ended = k := ⟨_, rfl⟩
        obtain ⟨stn, hstn⟩ : ∃ k, (jPrsB sb).torn = k := ⟨_, rfl⟩
        rw [hW, hsbg, hsfn, hstn] at hpt
        have hba := HC.out.2.2.2.2.2
        have hun : unfB (jPrsB sb) = (sbg && !sfn) := by unfold unfB; rw [hsbg, hsfn]
        rw [hW, hun] at hba
        cases W with
        | true =>
          have hbad : badQ (sgsM d.L) (j' + 1) = true := by rw [hba]; rfl
          clear hba hun hW hsbg hsfn hstn
          go_upto_region 6 with (first
            | (go_at_call 63; refine hpt.mono ?_; rintro e w4 ⟨pa, pm, pc, t, bg, fn, rfl, himp, b4⟩; clear hpt himp)
            | fail)
          obtain ⟨w5, hw5⟩ : ∃ k, w4.alloc (.cells #[.int .i64 nn, .int .i64 (sb.length : Int), .slice pa pm pc, .bool t, .bool bg, .bool fn] 81) = k := ⟨_, rfl⟩
          have al5 : Below w4.heap.size w4 w5 := by rw [← hw5]; exact (Below.refl _ _).alloc (Nat.le_refl _) _
          have hX5 : Bn w5 w4.heap.size [.int .i64 nn, .int .i64 (sb.length : Int), .slice pa pm pc, .bool t, .bool bg, .bool fn] := by rw [← hw5]; exact Bn.new w4 _ _ _ rfl
          have b5 : Below wr.heap.size wr w5 := b4.trans (al5.mono b4.size)
          have hYr : Y < wr.heap.size := Nat.lt_of_lt_of_le hYl HB.out.size
          have hgr : g < wr.heap.size := Nat.lt_of_lt_of_le hgl HB.out.size
          have y5 := (b5.cell (p := ⟨Y, 0, none⟩) hYr).trans hy0
          have p5 := (b5.cell (p := ⟨g, j' * 3, none⟩) hgr).trans p0
          have c5 := (b5.cell (p := ⟨g, (j' + 1) * 3, none⟩) hgr).trans c1
          obtain ⟨q3, _⟩ := hX5 3 _ rfl
          obtain ⟨q4, _⟩ := hX5 4 _ rfl
          obtain ⟨q5, _⟩ := hX5 5 _ rfl
          rw [hw5]
          have HB5 := hideD (HB.out.trans (b5.mono HB.out.size))
          have H5 := hideD (And.intro b4 (And.intro al5 b5))
          clear hw5 al5 b4 b5
          have HBD := hideD (okQ_no hjS hbad)
          clear hbad
          go_wp2
          go_quiet (fail)
          go_wp2
          go_ret2
          exact ⟨_, congrArg (fun k => Ending.returned (.tuple #[_, .bool k])) HBD.out.symm, fun h => (by rw [HBD.out] at h; cases h), below_dn HB5.out _⟩
        | false =>
          have HS := hideD (And.intro hW (And.intro hsbg (And.intro hsfn hstn)))
          rw [HSL.out] at hba
          clear hun hW hsbg hsfn hstn
          go_upto_region 6 with (first
            | (go_at_call 63; refine hpt.mono ?_; rintro e w4 ⟨pa, pm, pc, t, bg, fn, rfl, himp, b4⟩; obtain ⟨ht, hbg, hfn, hOw⟩ := himp rfl; subst ht hbg hfn; clear hpt himp)
            | fail)
          obtain ⟨w5, hw5⟩ : ∃ k, w4.alloc (.cells #[.int .i64 nn, .int .i64 (sb.length : Int), .slice pa pm pc, .bool t, .bool bg, .bool fn] 81) = k := ⟨_, rfl⟩
          have al5 : Below w4.heap.size w4 w5 := by rw [← hw5]; exact (Below.refl _ _).alloc (Nat.le_refl _) _
          have hX5 : Bn w5 w4.heap.size [.int .i64 nn, .int .i64 (sb.length : Int), .slice pa pm pc, .bool t, .bool bg, .bool fn] := by rw [← hw5]; exact Bn.new w4 _ _ _ rfl
          have b5 : Below wr.heap.size wr w5 := b4.trans (al5.mono b4.size)
          have hYr : Y < wr.heap.size := Nat.lt_of_lt_of_le hYl HB.out.size
          have hgr : g < wr.heap.size := Nat.lt_of_lt_of_le hgl HB.out.size
          have y5 := (b5.cell (p := ⟨Y, 0, none⟩) hYr).trans hy0
          have p5 := (b5.cell (p := ⟨g, j' * 3, none⟩) hgr).trans p0
          have c5 := (b5.cell (p := ⟨g, (j' + 1) * 3, none⟩) hgr).trans c1
          obtain ⟨q3, _⟩ := hX5 3 _ rfl
          obtain ⟨q4, _⟩ := hX5 4 _ rfl
          obtain ⟨q5, _⟩ := hX5 5 _ rfl
          rw [hw5]
          have HB5 := hideD (HB.out.trans (b5.mono HB.out.size))
          have H5 := hideD (And.intro b4 (And.intro al5 b5))
          clear hw5 al5 b4 b5

          obtain ⟨pq, hpq⟩ : ∃ k, IntKind.i64.wrap (nn - 1) = k := ⟨_, rfl⟩
          rw [wrap64_iJ, hpq] at hba
          by_cases hne : pn = pq
          · have hne2 : nmQ (sgsM d.L) j' = pq := by rw [HPN.out]; exact hne
            cases bg with
            | false =>
              have hgood : badQ (sgsM d.L) (j' + 1) = false := by rw [hba]; simp [hne2]
              clear hba hne2
              have HGD := hideD hgood
              have HOW := hideD hOw
              have HX5 := hideD hX5
              obtain ⟨q0, _⟩ := hX5 0 _ rfl
              obtain ⟨q1, _⟩ := hX5 1 _ rfl
              obtain ⟨q2, _⟩ := hX5 2 _ rfl
              clear hgood hOw hX5
              have hO5 : ∀ k, OwnK (w5.drewN k) w.heap.size 81 6 rPt (.slice oa ol oc) ((sgsM d.L).take (j' + 1)) := fun k => (HO.out.on kp_Pt H5.out.2.2).on kp_Pt ⟨rfl, rfl, rfl, Nat.le_refl _, fun _ _ => rfl⟩
              have hR5 : ∀ k, rPt (fun b => wr.heap.size ≤ b) (w5.drewN k) (nn, sb.length, jPrsB sb) [.int .i64 nn, .int .i64 (sb.length : Int), .slice pa pm pc, .bool t, .bool false, .bool fn] := fun k => ⟨_, by rw [HS.out.2.1, HS.out.2.2.1, HS.out.2.2.2], ((HOW.out.on kp_By H5.out.2.1).on kp_By (w' := w5.drewN k) ⟨rfl, rfl, rfl, Nat.le_refl _, fun _ _ => rfl⟩).rd kp_By⟩
              have hs5 : w.heap.size ≤ w5.heap.size := HB5.out.size
              go_wp2
              go_quiet (fail)
              go_wp2_with (first
                | (at_builtin; refine wpList_pushJ (w5.drewN _) rfl _ _ 51 rfl w.heap.size 81 io (.agg #[.int .i64 0, .int .i64 0, .slice none 0 0, .bool false, .bool false, .bool false]) 6 48 Try.underlying51 hio hio0 hio1 hio2 rfl kp_Pt (.slice oa ol oc) ((sgsM d.L).take (j' + 1)) (nn, sb.length, jPrsB sb) [.int .i64 nn, .int .i64 (sb.length : Int), .slice pa pm pc, .bool t, .bool false, .bool fn] wr.heap.size rfl rfl rfl (by simp [Value.oneCell']) (hO5 _) (hR5 _) HB.out.size (fun x hx => ((ownK_lt HO.out) x hx).2) (by rw [HOL.out]; omega) (by unfold maxLen; rw [HOL.out]; omega) hs5 ?_; intro vb wb hOb hgb hbb; have HOB := hideD (And.intro hOb hbb); clear hOb hgb hbb hO5 hR5)
                | fail)
              go_roundw
              case rel =>
                refine ⟨(j' + 1) + 1, hlt, by go_num, hideD ⟨by rw [HC.out.2.2.2.1]; exact HOB.out.1, (below_dn HB5.out _).trans HOB.out.2, fun i hi => ?_⟩⟩
                by_cases e : i = (j' + 1)
                · rw [e]
                  exact HGD.out
                · exact HC.out.2.2.2.2.1 i (by omega)
              case measure => simp [RowKit.intOf]; omega
            | true =>
              cases fn with
              | true =>
                have hgood : badQ (sgsM d.L) (j' + 1) = false := by rw [hba]; simp [hne2]
                clear hba hne2
                have HGD := hideD hgood
                have HOW := hideD hOw
                have HX5 := hideD hX5
                obtain ⟨q0, _⟩ := hX5 0 _ rfl
                obtain ⟨q1, _⟩ := hX5 1 _ rfl
                obtain ⟨q2, _⟩ := hX5 2 _ rfl
                clear hgood hOw hX5
                have hO5 : ∀ k, OwnK (w5.drewN k) w.heap.size 81 6 rPt (.slice oa ol oc) ((sgsM d.L).take (j' + 1)) := fun k => (HO.out.on kp_Pt H5.out.2.2).on kp_Pt ⟨rfl, rfl, rfl, Nat.le_refl _, fun _ _ => rfl⟩
                have hR5 : ∀ k, rPt (fun b => wr.heap.size ≤ b) (w5.drewN k) (nn, sb.length, jPrsB sb) [.int .i64 nn, .int .i64 (sb.length : Int), .slice pa pm pc, .bool t, .bool true, .bool true] := fun k => ⟨_, by rw [HS.out.2.1, HS.out.2.2.1, HS.out.2.2.2], ((HOW.out.on kp_By H5.out.2.1).on kp_By (w' := w5.drewN k) ⟨rfl, rfl, rfl, Nat.le_refl _, fun _ _ => rfl⟩).rd kp_By⟩
                have hs5 : w.heap.size ≤ w5.heap.size := HB5.out.size
                go_wp2
                go_quiet (fail)
                go_wp2_with (first
                  | (at_builtin; refine wpList_pushJ (w5.drewN _) rfl _ _ 51 rfl w.heap.size 81 io (.agg #[.int .i64 0, .int .i64 0, .slice none 0 0, .bool false, .bool false, .bool false]) 6 48 Try.underlying51 hio hio0 hio1 hio2 rfl kp_Pt (.slice oa ol oc) ((sgsM d.L).take (j' + 1)) (nn, sb.length, jPrsB sb) [.int .i64 nn, .int .i64 (sb.length : Int), .slice pa pm pc, .bool t, .bool true, .bool true] wr.heap.size rfl rfl rfl (by simp [Value.oneCell']) (hO5 _) (hR5 _) HB.out.size (fun x hx => ((ownK_lt HO.out) x hx).2) (by rw [HOL.out]; omega) (by unfold maxLen; rw [HOL.out]; omega) hs5 ?_; intro vb wb hOb hgb hbb; have HOB := hideD (And.intro hOb hbb); clear hOb hgb hbb hO5 hR5)
                  | fail)
                go_roundw
                case rel =>
                  refine ⟨(j' + 1) + 1, hlt, by go_num, hideD ⟨by rw [HC.out.2.2.2.1]; exact HOB.out.1, (below_dn HB5.out _).trans HOB.out.2, fun i hi => ?_⟩⟩
                  by_cases e : i = (j' + 1)
                  · rw [e]
                    exact HGD.out
                  · exact HC.out.2.2.2.2.1 i (by omega)
                case measure => simp [RowKit.intOf]; omega
              | false =>
                by_cases hl : (j' + 1) + 1 < N
                · have hbad : badQ (sgsM d.L) (j' + 1) = true := by rw [hba]; simp [hl]
                  have hl2 : (j' : Int) + 1 < (N : Int) - 1 := by omega
                  clear hba hne2
                  have HBD := hideD (okQ_no hjS hbad)
                  clear hbad
                  go_wp2
                  go_quiet (fail)
                  go_wp2
                  go_ret2
                  exact ⟨_, congrArg (fun k => Ending.returned (.tuple #[_, .bool k])) HBD.out.symm, fun h => (by rw [HBD.out] at h; cases h), below_dn HB5.out _⟩
                · have hgood : badQ (sgsM d.L) (j' + 1) = false := by rw [hba]; simp [hne2, hl]
                  have hl2 : ¬ (j' : Int) + 1 < (N : Int) - 1 := by omega
                  clear hba hl hne2
                  have HGD := hideD hgood
                  have HOW := hideD hOw
                  have HX5 := hideD hX5
                  obtain ⟨q0, _⟩ := hX5 0 _ rfl
                  obtain ⟨q1, _⟩ := hX5 1 _ rfl
                  obtain ⟨q2, _⟩ := hX5 2 _ rfl
                  clear hgood hOw hX5
                  have hO5 : ∀ k, OwnK (w5.drewN k) w.heap.size 81 6 rPt (.slice oa ol oc) ((sgsM d.L).take (j' + 1)) := fun k => (HO.out.on kp_Pt H5.out.2.2).on kp_Pt ⟨rfl, rfl, rfl, Nat.le_refl _, fun _ _ => rfl⟩
                  have hR5 : ∀ k, rPt (fun b => wr.heap.size ≤ b) (w5.drewN k) (nn, sb.length, jPrsB sb) [.int .i64 nn, .int .i64 (sb.length : Int), .slice pa pm pc, .bool t, .bool true, .bool false] := fun k => ⟨_, by rw [HS.out.2.1, HS.out.2.2.1, HS.out.2.2.2], ((HOW.out.on kp_By H5.out.2.1).on kp_By (w' := w5.drewN k) ⟨rfl, rfl, rfl, Nat.le_refl _, fun _ _ => rfl⟩).rd kp_By⟩
                  have hs5 : w.heap.size ≤ w5.heap.size := HB5.out.size
                  go_wp2
                  go_quiet (fail)
                  go_wp2_with (first
                    | (at_builtin; refine wpList_pushJ (w5.drewN _) rfl _ _ 51 rfl w.heap.size 81 io (.agg #[.int .i64 0, .int .i64 0, .slice none 0 0, .bool false, .bool false, .bool false]) 6 48 Try.underlying51 hio hio0 hio1 hio2 rfl kp_Pt (.slice oa ol oc) ((sgsM d.L).take (j' + 1)) (nn, sb.length, jPrsB sb) [.int .i64 nn, .int .i64 (sb.length : Int), .slice pa pm pc, .bool t, .bool true, .bool false] wr.heap.size rfl rfl rfl (by simp [Value.oneCell']) (hO5 _) (hR5 _) HB.out.size (fun x hx => ((ownK_lt HO.out) x hx).2) (by rw [HOL.out]; omega) (by unfold maxLen; rw [HOL.out]; omega) hs5 ?_; intro vb wb hOb hgb hbb; have HOB := hideD (And.intro hOb hbb); clear hOb hgb hbb hO5 hR5)
                    | fail)
                  go_roundw
                  case rel =>
                    refine ⟨(j' + 1) + 1, hlt, by go_num, hideD ⟨by rw [HC.out.2.2.2.1]; exact HOB.out.1, (below_dn HB5.out _).trans HOB.out.2, fun i hi => ?_⟩⟩
                    by_cases e : i = (j' + 1)
                    · rw [e]
                      exact HGD.out
                    · exact HC.out.2.2.2.2.1 i (by omega)
                  case measure => simp [RowKit.intOf]; omega
          · have hnc : (pn != pq) = true := by simpa using hne
            have hne2 : nmQ (sgsM d.L) j' ≠ pq := by rw [HPN.out]; exact hne
            have hbad : badQ (sgsM d.L) (j' + 1) = true := by rw [hba]; simp [hne2]
            clear hne
            clear hba hne2
            have HBD := hideD (okQ_no hjS hbad)
            clear hbad
            go_wp2
            go_quiet (fail)
            go_wp2
            go_ret2
            exact ⟨_, congrArg (fun k => Ending.returned (.tuple #[_, .bool k])) HBD.out.symm, fun h => (by rw [HBD.out] at h; cases h), below_dn HB5.out _⟩
    · have k1 : ¬ (j : Int) < (N : Int) := by omega
      obtain rfl : j = N := by omega
      have htk : (sgsM d.L).take j = sgsM d.L := List.take_of_length_le (by rw [HSL.out]; exact Nat.le_refl _)
      rw [htk, HSL.out] at hO
      rw [htk, HSL.out]
      have hok : okQ (sgsM d.L) = true := okQ_yes (by rw [HSL.out]; exact hbd)
      have HF := hideD (And.intro hok (And.intro hO hB))
      clear hok hO hB hbd htk
      go_wp2
      go_ret2
      exact ⟨_, congrArg (fun k => Ending.returned (.tuple #[_, .bool k])) HF.out.1.symm, fun _ => HF.out.2.1, HF.out.2.2⟩
end Go.Proofs.Ytpblcahcpobicaa
