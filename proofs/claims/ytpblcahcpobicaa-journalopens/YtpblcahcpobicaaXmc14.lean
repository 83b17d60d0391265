import Derived.Test.YtpblcahcpobicaaXmc13
import Derived.Test.YtpblcahcpobicaaXmc09
import Derived.Test.YtpblcahcpobicaaXmc06
import Derived.Test.YtpblcahcpobicaaXmc10
import Derived.Test.YtpblcahcpobicaaXmc01
import Derived.ProofKit
import Derived.OpenShut
import Derived.ShutString
import Derived.ChangeOld
import Derived.SizedLaws
import Derived.Below

/- The document's journal: Open, whatever lies on the disk. -/
namespace Go.Proofs.Ytpblcahcpobicaa
open Go.RowKit Go.Lib Go.Maps
set_option linter.unusedSimpArgs false
set_option linter.unusedVariables false
set_option maxRecDepth 100000

theorem qjopen_any {w : World} {Y n0 : Nat} {G : Nat → Prop} {d : Dk} (h : QD w Y G d) (ok : Ok d n0 1000000) (hn0 : n0 ≤ 100000) (hby : ByD d) :
    Calls Try.prog 12 #[.pointer (some ⟨Y, 0, none⟩)] w fun e w' => QoOut w w' Y G (opnM d) e := by
  rw [← qop_eq ok hn0]
  by_cases h1 : d.dead = true ∧ d.L ≠ []
  · exact qjopen_dead h (by have := ok.len; omega) h1.1 h1.2
  cases h2 : okQ (sgsM d.L) with
  | false => exact qjopen_bad h ok hn0 hby h1 h2
  | true =>
    by_cases hL : d.L = []
    · exact qjopen_nil h ok hn0 hby hL
    · have hdf : d.dead = false := by
        cases e : d.dead with
        | false => rfl
        | true => exact absurd ⟨e, hL⟩ h1
      have hp : 0 < (sgsM d.L).length := by
        rw [sgs_len]
        exact List.length_pos_iff.2 hL
      obtain ⟨m, hm⟩ : ∃ m, (sgsM d.L).length = m + 1 := ⟨(sgsM d.L).length - 1, by omega⟩
      have hlt : m < (sgsM d.L).length := by omega
      cases hu : unfB ((sgsM d.L)[m]).2.2 with
      | false => exact qjopen_whole h ok hn0 hby hdf h2 hm hlt hu
      | true => exact qjopen_unf h ok hn0 hby hdf h2 hm hlt hu
end Go.Proofs.Ytpblcahcpobicaa

/- The law JournalOpens: its math, both Opens. -/
namespace Go.Proofs.Ytpblcahcpobicaa
open Go.RowKit Go.Lib Go.Maps
set_option linter.unusedSimpArgs false
set_option linter.unusedVariables false

/-- Rows of bytes that come in: an empty one may lie anywhere. -/
abbrev RdBw (w : World) (L : List (List Int)) (v : Value) : Prop := RdK (fun _ => True) w 1 (fun x cs => ∃ a c, cs = [.slice a x.length c] ∧ Rd w (.slice a x.length c) x) L v
theorem RdBw.at {w : World} {L : List (List Int)} {a : Option Addr} {k c : Nat} (h : RdBw w L (.slice a k c)) {i : Nat} (hi : i < L.length) : ∃ b off ra rc, a = some ⟨b, off, none⟩ ∧ b < w.heap.size ∧ w.cell? ⟨b, off + i, none⟩ = some (.slice ra (L[i]).length rc) ∧ Rd w (.slice ra (L[i]).length rc) L[i] := by
  obtain ⟨a', cap, e, _, _, hcell⟩ := h
  simp only [Value.slice.injEq] at e
  obtain ⟨rfl, _, rfl⟩ := e
  obtain ⟨b, off, cs, h1, _, h2, _, ⟨ra, rc, rfl, h4⟩, h5⟩ := hcell i hi
  have := h5 0 _ rfl
  rw [Nat.mul_one, Nat.add_zero] at this
  exact ⟨b, off, ra, rc, h1, h2, this, h4⟩
theorem byD_brn {d : Dk} (h : ByD d) : ByD (brn d) := fun x hx => h x (by rw [(brn_L d).1] at hx; exact hx)
theorem byD_app {d : Dk} (h : ByD d) (hr : Ris d.L) (n : Int) {bs : List Int} (hb : ∀ b ∈ bs, 0 ≤ b ∧ b ≤ 255) : ByD (appD d n bs).1 := by
  unfold appD
  split
  · exact h
  · split
    · exact h
    · split
      · exact h
      · split
        · exact byD_brn h
        · intro x hx y hy
          rcases mem_pt hr hx with rfl | ⟨hx, _⟩
          · simp only [List.mem_append] at hy
            rcases hy with hy | hy
            · cases hl : lk n d.L with
              | none => rw [hl] at hy; simp at hy
              | some s =>
                rw [hl] at hy
                exact h _ (lk_mem hl) y hy
            · exact hb y hy
          · exact h x hx y hy
theorem dps_ok {n u : Nat} : ∀ (L : List SgT) {d : Dk}, Ok d n u → Ok (dpsM d L).1 n u
  | [], _, h => h
  | x :: r, d, h => by
    unfold dpsM
    split
    · exact dps_ok r (h.drp x.1)
    · exact h.drp x.1
theorem lst_ok {n u : Nat} {d : Dk} {L : List SgT} (h : Ok d n u) : Ok (lstM d L).1 n u := by
  unfold lstM
  split
  · exact h
  · split
    · exact h.drp _
    · exact h
theorem opn_ok {n u : Nat} {d : Dk} (h : Ok d n u) : Ok (opnM d).1 n u := by
  have ht : Ok (tidM d (sgsM d.L)).1 n u := by
    unfold tidM
    split
    · exact dps_ok _ (lst_ok h)
    · exact lst_ok h
  unfold opnM
  split
  · exact h
  · split
    · exact h
    · split
      · exact ht
      · exact ht
/-- The records that Open tells. -/
def rcM (d : Dk) : List (List Int) := if (opnM d).2.1 = 0 then opR (opnM d).2.2 else []
theorem t2_open {W : World} {A : Nat → Prop} {X Y n0 : Nat} {d : Dk} (h : T2 W A X Y d d) (ok : Ok d n0 1000000) (hn0 : n0 ≤ 100000) (hby : ByD d) :
    Calls Try.prog 11 #[.pointer (some ⟨X, 0, none⟩)] W fun r w1 => ∃ p rv, r = .returned (.tuple #[p, rv, .int .i64 (opnM d).2.1]) ∧ Kf A W w1 ∧
      Calls Try.prog 12 #[.pointer (some ⟨Y, 0, none⟩)] w1 fun r w2 => ∃ q rv2, r = .returned (.tuple #[q, rv2, .int .i64 (opnM d).2.1]) ∧ Kf A W w2 ∧ RdBs w2 (rcM d) rv ∧ RdBs w2 (rcM d) rv2 ∧ ∃ F G, PD w2 X F (opnM d).1 ∧ QD w2 Y G (opnM d).1 := by
  obtain ⟨F, G, p, q, hF, hG⟩ := h
  refine (jopen_any p ok hn0 hby).mono ?_
  rintro r w1 ⟨pp, rv, rfl, p1, k1, e1, e2⟩
  have s1 := k1.size
  have q1 : QD w1 Y G d := q.keep (fun b hb hl => k1.block b hl (fun e => (hF b e).2.2 hb)) (fun _ _ h => h)
  have hrv : RdBsB W.heap.size w1 (rcM d) rv := by
    unfold rcM
    by_cases e : (opnM d).2.1 = 0
    · rw [if_pos e]
      obtain ⟨J, _, _, _, _, hr⟩ := e2 e
      exact hr
    · rw [if_neg e, (e1 e).2]
      exact rdK_none _ _ _ _
  refine ⟨pp, rv, rfl, k1.mono (fun j hj => (hF j hj).1), (qjopen_any q1 ok hn0 hby).mono ?_⟩
  rintro r w2 ⟨pq, rv2, rfl, p2, k2, f1, f2⟩
  refine ⟨pq, rv2, rfl, (k1.mono (fun j hj => (hF j hj).1)).trans (k2.mono (fun j hj => (hG j hj).1)), ?_, ?_, _, _, p1.keep (fun b hb hl => k2.block b hl (fun e => ?_)), p2⟩
  · exact RdK.stay kp_By hrv (fun b hb hl => ⟨trivial, k2.block b hl (fun e => by have := (hG b e).2; omega)⟩)
  · unfold rcM
    by_cases e : (opnM d).2.1 = 0
    · rw [if_pos e]
      obtain ⟨J, G', _, _, _, _, hr⟩ := f2 e
      exact hr
    · rw [if_neg e, (f1 e).2]
      exact rdK_none _ _ _ _
  · have := (hG b e).2
    rcases hb with hb | hb
    · exact (hF b hb).2.2 e
    · omega
theorem t2_new {w1 w2 w3 : World} {d : Dk} (p : PD w2 w1.heap.size (fun j => j = w1.heap.size) d) (b2 : Below w1.heap.size w1 w2) (q : QD w3 w2.heap.size (fun j => j = w2.heap.size) d) (b3 : Below w2.heap.size w2 w3) : T2 w3 (fun j => w1.heap.size ≤ j) w1.heap.size w2.heap.size d d := by
  have hX : w1.heap.size < w2.heap.size := by
    obtain ⟨mv, E, fz, q1, _⟩ := id p
    have := PD.lt p
    omega
  have hY := q.lt
  have s2 := b2.size
  have s3 := b3.size
  exact ⟨_, _, p.on b3, q, fun j hj => by have e : j = w1.heap.size := hj; exact ⟨by omega, by omega, fun e2 => by have : j = w2.heap.size := e2; omega⟩, fun j hj => by have e : j = w2.heap.size := hj; exact ⟨by omega, by omega⟩⟩
/-- One Append on both disks. -/
theorem t2_apps {W : World} {A : Nat → Prop} {X Y : Nat} {d : Dk} {n : Int} {bs : List Int} {bv : Value} (h : T2 W A X Y d d) (ok : Ok d 1000 500000) (hA : ∀ j, W.heap.size ≤ j → A j) (hn : (Lit.int .i64 n).wf = true) (hb : bs.length ≤ 50000) (hv : ∀ w1, Kf A W w1 → Rd w1 bv bs) :
    Calls Try.prog 26 #[.pointer (some ⟨X, 0, none⟩), .int .i64 n, bv] W fun r w1 => r = .returned (.int .i64 (appD d n bs).2) ∧ Kf A W w1 ∧
      Calls Try.prog 27 #[.pointer (some ⟨Y, 0, none⟩), .int .i64 n, bv] w1 fun r w2 => r = .returned (.int .i64 (appD d n bs).2) ∧ T2 w2 A X Y (appD d n bs).1 (appD d n bs).1 ∧ Kf A W w2 := by
  refine (t2_app (x := ⟨1, n, 0, 0, bs, []⟩) h ok hA hn hb (fun F w1 hF k => hv w1 (k.mono hF))).mono ?_
  rintro r w1 ⟨rfl, t1, k1⟩
  have s1 := k1.size
  refine ⟨rfl, k1, (t2_appq (x := ⟨1, n, 0, 0, bs, []⟩) t1 ok (fun j hj => hA j (by omega)) hb (fun F w2 hF k => hv w2 (k1.trans (k.mono hF)))).mono ?_⟩
  rintro r w2 ⟨rfl, t2, k2⟩
  exact ⟨rfl, t2, k1.trans k2⟩
/-- The fuse, on both. -/
theorem Ok.fuse2 {d : Dk} {n u : Nat} (h : Ok d n u) {f : Int} (hf : (Lit.int .i64 f).wf = true) : Ok { d with fuse := max f (-1) } n u := h.L rfl rfl (by have := wf_in hf; simp only; omega)
end Go.Proofs.Ytpblcahcpobicaa

/- The law JournalOpens: its walk. -/
namespace Go.Proofs.Ytpblcahcpobicaa
open Go.RowKit Go.Lib Go.Maps
set_option linter.unusedSimpArgs false
set_option linter.unusedVariables false
set_option maxRecDepth 100000
attribute [local go_sem ↓] Go.wp_at_zero Go.wp_at_succ

set_option maxHeartbeats 8000000 in
theorem jopens_main {w : World} {K : List (List Int)} {v : Value} (h : RdBw w K v) (hK : K.length ≤ 20) (hby : ∀ x ∈ K, ∀ b ∈ x, 0 ≤ b ∧ b ≤ 255) (fr gp : Nat) (hfr : fr ≤ 255) (hgp : gp ≤ 255) (fu : Int) (hfu : (Lit.int .i64 fu).wf = true) :
    Calls Try.prog 4 #[v, .int .u8 (fr : Int), .int .u8 (gp : Int), .int .i64 fu] w fun e w' => e = .returned (.bool true) ∧ Below w.heap.size w w' := by
  have haw := jawake_any w
  obtain ⟨va, vc, rfl, hvc, hvm⟩ := id h.form
  unfold maxLen at hvm
  obtain ⟨m, hm⟩ : ∃ k, K.length = k := ⟨_, rfl⟩
  have HM := hideD hm
  have HL := hideD (And.intro h hby)
  rw [hm] at hvc hK HL ⊢
  have k0 : ¬ (20 : Int) < (m : Int) := by omega
  have k1 : (m : Int) ≤ 20 := by omega
  have hN1 := fun wz => dnew_any wz 100000
  have hN2 := fun wz => qnew_any wz 100000
  clear h hby hm
  go_enter Try.func4, Try.ntmps4
  go_wp2_with (first
    | (go_at_call 7; refine haw.mono ?_; rintro e w1 ⟨rfl, b1⟩; clear haw; have HB1 := hideD b1; clear b1)
    | (go_at_call 9; refine (hN1 w1).mono ?_; rintro e w2 ⟨rfl, p2, b2⟩; have HP2 := hideD (And.intro p2 b2); clear p2 b2 hN1)
    | (go_at_call 10; refine (hN2 w2).mono ?_; rintro e w3 ⟨rfl, q3, b3⟩; have HT0 := hideD (t2_new HP2.out.1 HP2.out.2 q3 b3); have HB3 := hideD (HP2.out.2.trans (b3.mono HP2.out.2.size)); clear q3 b3 hN2 HP2)
    | fail)
  have H0 := hideD (show ∃ d, T2 w3 (fun j => w1.heap.size ≤ j) w1.heap.size w2.heap.size d d ∧ Ok d 0 (4000 * 0) ∧ ByD d from ⟨_, HT0.out, (ok_new 100000 (by omega)).mono (Nat.le_refl _) (by omega), fun x hx => absurd hx (by simp)⟩)
  clear HT0
  go_loopw [11, 33] (fun nv ix wr => ∃ (j n : Nat), j ≤ m ∧ n ≤ 255 + 2 * j ∧ ix = .int .i64 (j : Int) ∧ nv = .int .i64 (n : Int) ∧ Hid (∃ d, T2 wr (fun j => w1.heap.size ≤ j) w1.heap.size w2.heap.size d d ∧ Ok d j (4000 * j) ∧ ByD d) ∧ Hid (Below w1.heap.size w1 wr)) (fun _ ix _ => m - (RowKit.intOf ix).toNat)
  case atStart => exact ⟨0, fr, Nat.zero_le _, by omega, rfl, rfl, H0, HB3⟩
  case round =>
    clear H0 HB3
    obtain ⟨j, n, hj, hn, rfl, rfl, HT, HBj⟩ := hrel
    obtain ⟨d, hT⟩ := HT.out
    clear HT
    have HT := hideD hT
    clear hT
    have hbw : Below w.heap.size w wr := HB1.out.trans (HBj.out.mono HB1.out.size)
    by_cases hlt : j < m
    · have hjl : j < K.length := by rw [HM.out]; exact hlt
      obtain ⟨g, off, ra, rc, rfl, hg, c0, hr⟩ := HL.out.1.at hjl
      have HBY := hideD (HL.out.2 _ (List.getElem_mem hjl))
      obtain ⟨x, hxx⟩ : ∃ k, K[j] = k := ⟨_, rfl⟩
      rw [hxx] at c0 hr HBY
      have HR := hideD hr
      have cj := (hbw.cell (p := ⟨g, off + j, none⟩) hg).trans c0
      have i1 : (j : Int) < (m : Int) := by omega
      have i2 : (0 : Int) ≤ (j : Int) := by omega
      clear hr hxx
      by_cases hx : 4000 < x.length
      · have i3 : (4000 : Int) < (x.length : Int) := by omega
        obtain ⟨lx, hlx⟩ : ∃ k, x.length = k := ⟨_, rfl⟩
        rw [hlx] at cj i3
        have HBW := hideD hbw
        clear hlx hx HR HT hbw c0
        go_wp2
        (try simp only [Exit.inBlock, Exit.then])
        go_ret
        exact ⟨rfl, HBW.out⟩
      · skip
        have hx2 : x.length ≤ 4000 := by omega
        have hA : ∀ j, wr.heap.size ≤ j → w1.heap.size ≤ j := fun j hj => by
          have := HBj.out.size
          omega
        have hap := fun (z : Nat) (hz : z ≤ 1000) => t2_apps (n := (z : Int)) (bs := x) (bv := .slice ra x.length rc) HT.out.1 (HT.out.2.1.mono (by omega) (by omega)) hA (by simp [Lit.wf, IntKind.min, IntKind.max, IntKind.signed, IntKind.bits]; omega) (by omega) (fun W k => rd_on HR.out ((hbw.trans ((Kf.below k (fun j hj => hj) (HBj.out.size)).mono HB1.out.size))))
        have hkeep := fun W (k : Kf (fun j => w1.heap.size ≤ j) wr W) => (k.below (B := w1.heap.size) (fun j hj => hj) HBj.out.size)
        have hcw := fun W (k : Kf (fun j => w1.heap.size ≤ j) wr W) => ((HB1.out.trans ((HBj.out.trans (hkeep W k)).mono HB1.out.size)).cell (p := ⟨g, off + j, none⟩) hg).trans c0
        have HNX := hideD (show ∀ (z : Nat) W, z ≤ 1000 → T2 W (fun j => w1.heap.size ≤ j) w1.heap.size w2.heap.size (appD d (z : Int) x).1 (appD d (z : Int) x).1 → Kf (fun j => w1.heap.size ≤ j) wr W → ∃ d', T2 W (fun j => w1.heap.size ≤ j) w1.heap.size w2.heap.size d' d' ∧ Ok d' (j + 1) (4000 * (j + 1)) ∧ ByD d' from fun z W hz t k =>
          ⟨_, t, (HT.out.2.1.app (by simp [Lit.wf, IntKind.min, IntKind.max, IntKind.signed, IntKind.bits]; omega) x).mono (Nat.le_refl _) (by omega), byD_app HT.out.2.2 HT.out.2.1.r _ HBY.out⟩)
        have HKP := hideD hkeep
        obtain ⟨lx, hlx⟩ : ∃ k, x.length = k := ⟨_, rfl⟩
        rw [hlx] at hap hcw hx hx2 cj
        have k4 : ¬ (4000 : Int) < (lx : Int) := by omega
        clear HT hA hkeep hlx HR
        by_cases hg1 : 0 < gp ∧ j = gp
        · obtain ⟨hg0, rfl⟩ := hg1
          have i3 : (0 : Int) < (j : Int) := by omega
          have hap := hap (n + 1) (by omega)
          rw [show ((n + 1 : Nat) : Int) = (n : Int) + 1 by omega] at hap
          have HN2 := hideD (show ∃ k : Nat, (n : Int) + 1 = (k : Int) ∧ k = n + 1 from ⟨n + 1, by omega, rfl⟩)
          go_wp2_with (first
            | (go_at_call 26; refine hap.mono ?_; rintro e w5 ⟨rfl, k5, h5⟩; have c5 := hcw w5 k5; clear hap k5)
            | (go_at_call 27; refine h5.mono ?_; rintro e w6 ⟨rfl, t6, k6⟩; have HT6 := hideD (And.intro t6 k6); clear h5 t6 k6)
            | fail)
          go_roundw
          case rel =>
            obtain ⟨d2, q1, q2, q3⟩ := HNX.out (n + 1) _ (by omega) HT6.out.1 HT6.out.2
            exact ⟨j + 1, n + 2, hlt, by omega, by go_num, by go_num, hideD ⟨d2, q1, q2, q3⟩, hideD (HBj.out.trans (HKP.out _ HT6.out.2))⟩
          case measure => simp [RowKit.intOf]; omega
        · have hap := hap n (by omega)
          by_cases hg0 : 0 < gp
          · have i3 : (0 : Int) < (gp : Int) := by omega
            have i4 : ¬ (j : Int) = (gp : Int) := by omega
            go_wp2_with (first
              | (go_at_call 26; refine hap.mono ?_; rintro e w5 ⟨rfl, k5, h5⟩; have c5 := hcw w5 k5; clear hap k5)
              | (go_at_call 27; refine h5.mono ?_; rintro e w6 ⟨rfl, t6, k6⟩; have HT6 := hideD (And.intro t6 k6); clear h5 t6 k6)
              | fail)
            go_roundw
            case rel =>
              obtain ⟨d2, q1, q2, q3⟩ := HNX.out n _ (by omega) HT6.out.1 HT6.out.2
              exact ⟨j + 1, n + 1, hlt, by omega, by go_num, by go_num, hideD ⟨d2, q1, q2, q3⟩, hideD (HBj.out.trans (HKP.out _ HT6.out.2))⟩
            case measure => simp [RowKit.intOf]; omega
          · have i3 : ¬ (0 : Int) < (gp : Int) := by omega
            go_wp2_with (first
              | (go_at_call 26; refine hap.mono ?_; rintro e w5 ⟨rfl, k5, h5⟩; have c5 := hcw w5 k5; clear hap k5)
              | (go_at_call 27; refine h5.mono ?_; rintro e w6 ⟨rfl, t6, k6⟩; have HT6 := hideD (And.intro t6 k6); clear h5 t6 k6)
              | fail)
            go_roundw
            case rel =>
              obtain ⟨d2, q1, q2, q3⟩ := HNX.out n _ (by omega) HT6.out.1 HT6.out.2
              exact ⟨j + 1, n + 1, hlt, by omega, by go_num, by go_num, hideD ⟨d2, q1, q2, q3⟩, hideD (HBj.out.trans (HKP.out _ HT6.out.2))⟩
            case measure => simp [RowKit.intOf]; omega
    · have hjm : j = m := by omega
      subst hjm
      have k1 : ¬ (j : Int) < (j : Int) := by omega
      have hA : ∀ i, wr.heap.size ≤ i → w1.heap.size ≤ i := fun i hi => by
        have := HBj.out.size
        omega
      have hf1 := t2_fuse HT.out.1 hA fu
      have HOK := hideD ((HT.out.2.1.fuse2 hfu).mono (show j ≤ 1000 by omega) (show 4000 * j ≤ 1000000 by omega))
      have HBY := hideD (show ByD { d with fuse := max fu (-1) } from HT.out.2.2)
      clear HT hA
      have hS := hideD (show ∀ W, T2 W (fun j => w1.heap.size ≤ j) w1.heap.size w2.heap.size { d with fuse := max fu (-1) } d → T2 (W.setCell ⟨w2.heap.size, 2, none⟩ (.int .i64 (max fu (-1)))) (fun j => w1.heap.size ≤ j) w1.heap.size w2.heap.size { d with fuse := max fu (-1) } { d with fuse := max fu (-1) } ∧ Kf (fun j => w1.heap.size ≤ j) W (W.setCell ⟨w2.heap.size, 2, none⟩ (.int .i64 (max fu (-1)))) from fun W t => t.setF _)
      obtain ⟨d', hd'⟩ : ∃ k, ({ d with fuse := max fu (-1) } : Dk) = k := ⟨_, rfl⟩
      rw [hd'] at hf1 HOK HBY hS
      obtain ⟨er, her⟩ : ∃ k, (opnM d').2.1 = k := ⟨_, rfl⟩
      have HER := hideD her
      have HBW := hideD hbw
      clear hd' her hbw
      go_wp2_with (first
        | (go_at_call 18; refine hf1.mono ?_; rintro e w4 ⟨rfl, t4, k4⟩; obtain ⟨Lv, hYc⟩ := t4.cY; obtain ⟨z2, f2⟩ := hYc 2 _ rfl; have hop := t2_open (hS.out _ t4).1 HOK.out (by omega) HBY.out; rw [HER.out] at hop; have HK4 := hideD (k4.trans (hS.out _ t4).2); clear hf1 t4 k4 hYc)
        | (go_at_call 11; refine hop.mono ?_; rintro e w5 ⟨p, rv, rfl, -, h5⟩; clear hop)
        | (go_at_call 12; refine h5.mono ?_; rintro e w6 ⟨q, rv2, rfl, k6, r1, r2, F, G, p6, q6⟩; have hs := jsame_any r1 r2; have HB6 := hideD (And.intro k6 (And.intro p6 q6)); clear h5 r1 r2 k6 p6 q6)
        | (go_at_call 22; refine hs.mono ?_; rintro e w7 ⟨rfl, kk, rfl⟩; have hl := lsame_any (w := w6.drewN kk) (HB6.out.2.1.keep (fun _ _ _ => rfl)) (HB6.out.2.2.keep (fun _ _ _ => rfl) (fun _ _ h => h)) ((opn_ok HOK.out).us) (by have := (opn_ok HOK.out).len; omega) (fun x hx => ((opn_ok HOK.out).s x hx).2); clear hs)
        | (go_at_call 23; refine hl.mono ?_; rintro e w8 ⟨rfl, b8⟩; have HB8 := hideD b8; clear hl b8)
        | fail)
      (try simp only [Exit.inBlock, Exit.then])
      go_ret
      exact ⟨rfl, HBW.out.trans (Below.mono (Kf.below (((HK4.out.trans HB6.out.1).drewN kk).trans (Kf.of HB8.out (Nat.le_refl _))) (B := w1.heap.size) (fun j hj => hj) HBj.out.size) HB1.out.size)⟩
set_option maxHeartbeats 2000000 in
theorem jopens_off {w : World} {K : List (List Int)} {v : Value} (h : RdBw w K v) (hK : 20 < K.length) (fr gp fu : Int) :
    Calls Try.prog 4 #[v, .int .u8 fr, .int .u8 gp, .int .i64 fu] w fun e w' => e = .returned (.bool true) ∧ Below w.heap.size w w' := by
  have haw := jawake_any w
  obtain ⟨va, vc, rfl, hvc, hvm⟩ := id h.form
  obtain ⟨m, hm⟩ : ∃ k, K.length = k := ⟨_, rfl⟩
  rw [hm] at hK ⊢
  have k0 : (20 : Int) < (m : Int) := by omega
  clear h hvc hm
  go_enter Try.func4, Try.ntmps4
  go_wp2_with (first
    | (go_at_call 7; refine haw.mono ?_; rintro e w1 ⟨rfl, b1⟩; clear haw; have HB1 := hideD b1; have ha2 := jawake_any w1; clear b1)
    | (go_at_call 7; refine ha2.mono ?_; rintro e w2 ⟨rfl, b2⟩; have HB2 := hideD b2; clear ha2 b2)
    | fail)
  go_ret
  exact ⟨rfl, HB1.out.trans (HB2.out.mono HB1.out.size)⟩
theorem jopens_walk {w : World} {K : List (List Int)} {v : Value} (h : RdBw w K v) (hby : ∀ x ∈ K, ∀ b ∈ x, 0 ≤ b ∧ b ≤ 255) (fr : Int) (hfr : (Lit.int .u8 fr).wf = true) (gp : Int) (hgp : (Lit.int .u8 gp).wf = true) (fu : Int) (hfu : (Lit.int .i64 fu).wf = true) :
    Calls Try.prog 4 #[v, .int .u8 fr, .int .u8 gp, .int .i64 fu] w fun e w' => e = .returned (.bool true) ∧ Below w.heap.size w w' := by
  by_cases hK : 20 < K.length
  · exact jopens_off h hK fr gp fu
  · have h1 : 0 ≤ fr ∧ fr ≤ 255 := by simpa [Lit.wf, IntKind.min, IntKind.max, IntKind.signed, IntKind.bits] using hfr
    have h2 : 0 ≤ gp ∧ gp ≤ 255 := by simpa [Lit.wf, IntKind.min, IntKind.max, IntKind.signed, IntKind.bits] using hgp
    obtain ⟨a, rfl⟩ : ∃ k : Nat, fr = (k : Int) := ⟨fr.toNat, by omega⟩
    obtain ⟨b, rfl⟩ : ∃ k : Nat, gp = (k : Int) := ⟨gp.toNat, by omega⟩
    exact jopens_main h (by omega) hby a b (by omega) (by omega) fu hfu
end Go.Proofs.Ytpblcahcpobicaa

/- An argument that is a slice of bytes, opened: the bytes that it reads as, each from 0 to 255, and their number within the form's reach. -/
namespace Go.Proofs.Ytpblcahcpobicaa
open Go.ChangeShapes Go.WideShapes Go.ChangeAt Go.RowKit

end Go.Proofs.Ytpblcahcpobicaa

/- Arguments that are rows of rows of bytes, opened. -/
namespace Go.Proofs.Ytpblcahcpobicaa
open Go.ChangeShapes Go.WideShapes Go.ChangeAt Go.RowKit
set_option linter.unusedSimpArgs false
set_option linter.unusedVariables false

theorem pickD {α : Type} {Q : Nat → α → Prop} : ∀ n, (∀ i, i < n → ∃ y, Q i y) → ∃ l : List α, l.length = n ∧ ∀ i (h : i < l.length), Q i l[i]
  | 0, _ => ⟨[], rfl, fun i h => absurd h (by simp)⟩
  | n + 1, h => by
    obtain ⟨l, hl, hq⟩ := pickD n (fun i hi => h i (by omega))
    obtain ⟨y, hy⟩ := h n (by omega)
    refine ⟨l ++ [y], by simp [hl], fun i hi => ?_⟩
    by_cases hin : i < l.length
    · rw [List.getElem_append_left hin]
      exact hq i hin
    · have e : i = l.length := by simp at hi; omega
      subst e
      simp only [List.getElem_concat_length]
      rw [hl]
      exact hy
theorem weights_allD {H : Type} {P : Program} {e : TypeId} : ∀ {l : List (DataW H)} {d : DataW H}, d ∈ l → ∀ n ∈ d.weights P e, n ∈ DataW.weightsAll P e l
  | x :: r, d, h, n, hn => by
    simp only [DataW.weightsAll, List.mem_append]
    rcases List.mem_cons.1 h with rfl | h
    · exact .inl hn
    · exact .inr (weights_allD h n hn)
/-- What is met is not larger than what there may be. -/
def WtD {H : Type} (t : TypeId) (d : DataW H) : Prop := ∀ n ∈ d.weights Try.prog t, n ≤ reachBytes
theorem WtD.field {H : Type} {t u : TypeId} {fs : Array Field} {f : Field} {xs : List (DataW H × List MemPlace)} {y : DataW H × List MemPlace} (hu : Try.prog.underlying t = some (.struct fs)) (h : WtD t (.agg (xs.map (·.1)))) (j : Nat) (hf : fs[j]? = some f) (hy : xs[j]? = some y) (ht : f.type = u) : WtD u y.1 := fun n hn => by
  refine h n ?_
  simp only [DataW.weights, hu]
  refine DataW.weights_mem_each (j := j) (t := u) (d := y.1) ?_ (by simp [hy]) n hn
  simp [hf, ht]
theorem spot_noneD {w : World} {a : Addr} {v : Value} (h : w.cell? (a.add 0) = some v) : a = ⟨a.block, a.off, none⟩ := by
  rw [show a.add 0 = a from by simp [Addr.add]] at h
  unfold World.cell? at h
  split at h
  · obtain ⟨b, o, s⟩ := a
    cases s with
    | none => rfl
    | some x => simp at h
  · cases h
theorem RdK.bothD {α : Type} {ok : Nat → Prop} {w : World} {k : Nat} {R : α → List Value → Prop} {Q : α → Prop} {l : List α} {v : Value} (h : RdK ok w k (fun x cs => R x cs ∧ Q x) l v) : RdK ok w k R l v ∧ ∀ x ∈ l, Q x := by
  obtain ⟨a, cap, h1, h2, h3, h4⟩ := h
  refine ⟨⟨a, cap, h1, h2, h3, fun i hi => ?_⟩, fun x hx => ?_⟩
  · obtain ⟨b, off, cs, q1, q2, q3, q4, q5, q6⟩ := h4 i hi
    exact ⟨b, off, cs, q1, q2, q3, q4, q5.1, q6⟩
  · obtain ⟨i, hi, rfl⟩ := List.getElem_of_mem hx
    obtain ⟨b, off, cs, q1, q2, q3, q4, q5, q6⟩ := h4 i hi
    exact q5.2
section
variable {H : Type} {enc : TypeId × Value → H} {W : World}
theorem open_rowD {α : Type} {k : Nat} {R : α → List Value → Prop} {sl el : TypeId} (hu : Try.prog.underlying sl = some (.slice el)) (hc : Try.prog.cellsOf el = k) (hk : 0 < k) (hby : decide (1 ≤ Try.prog.bytesOf el) = true) {fuel : Nat} {cs : List Value} {x : DataW H × List MemPlace}
    (h : DataW.trod enc Try.prog W 0 (fun _ => true) true fuel sl cs = some x) (hw : WtD sl x.1) (hel : ∀ n' cs' y, fuel = n' + 1 → DataW.trod enc Try.prog W 0 (fun _ => true) true n' el cs' = some y → WtD el y.1 → ∃ a, R a cs') :
    ∃ (l : List α) (v : Value), cs = [v] ∧ RdK (fun _ => True) W k R l v ∧ l.length ≤ 140737488351232 := by
  rcases DataW.trod_slice hu h with ⟨rfl, _⟩ | ⟨ad, len, cap, elems, rest, n', hn', rfl, rfl, _, hlc, hcm, hel', helt, _, _⟩
  · exact ⟨[], _, rfl, rdK_none _ _ _ _, by simp⟩
  · have hlw : len ≤ 140737488351232 := by
      have h0 := hw ((elems.length + rest.length) * Try.prog.bytesOf el) (by simp [DataW.weights, hu])
      have h1 : (elems.length + rest.length) * 1 ≤ (elems.length + rest.length) * Try.prog.bytesOf el := Nat.mul_le_mul_left _ (of_decide_eq_true hby)
      have h2 : reachBytes = 140737488351232 := rfl
      omega
    rw [hc] at helt
    have hall : ∀ i, i < len → ∃ q : α × List Value, W.cells? 0 (ad.add (i * k)) k = some q.2 ∧ R q.1 q.2 := by
      intro i hi
      have h1 := helt i hi
      have hie : i < elems.length := by omega
      rw [List.getElem?_eq_getElem hie] at h1
      obtain ⟨cs', h2, h3⟩ := Option.bind_eq_some_iff.1 h1
      obtain ⟨a, ha⟩ := hel n' cs' _ hn' h3 (fun n hn => by
        refine hw n ?_
        simp only [DataW.weights, hu]
        exact List.mem_cons_of_mem _ (List.mem_append_left _ (weights_allD (List.mem_map_of_mem (List.getElem_mem hie)) n hn)))
      exact ⟨(a, cs'), h2, ha⟩
    obtain ⟨l, hll, hfy⟩ := pickD len hall
    refine ⟨l.map (·.1), _, rfl, ⟨some ad, cap, by simp [hll], by simpa [hll] using hlc, hcm, fun i hi => ?_⟩, by simpa [hll] using hlw⟩
    have hi' : i < l.length := by simpa using hi
    obtain ⟨_, q2, q3⟩ := World.cells?_some (hfy 0 (by omega)).1
    obtain ⟨_, g2, g3⟩ := World.cells?_some (hfy i hi').1
    have hs : ad = ⟨ad.block, ad.off, none⟩ := by
      have := q3 0 hk
      rw [Nat.zero_mul, show (ad.add 0).add 0 = ad.add 0 from by simp [Addr.add], List.getElem?_eq_getElem (by omega)] at this
      exact spot_noneD this
    generalize ad.block = b at hs
    generalize ad.off = off at hs
    subst hs
    have g4 : ∀ j u, (l[i]).2[j]? = some u → W.cell? ⟨b, off + i * k + j, none⟩ = some u := fun j u hj => by
      have hjl := (List.getElem?_eq_some_iff.1 hj).1
      have := g3 j (by omega)
      rw [add_plain, add_plain, hj] at this
      exact this
    refine ⟨b, off, (l[i]).2, rfl, trivial, ?_, g2, ?_, g4⟩
    · exact World.block_lt_of_cell? W _ (g4 0 _ (List.getElem?_eq_getElem (by omega)))
    · rw [List.getElem_map]
      exact (hfy i hi').2
theorem open_bytesD {fuel : Nat} {cs : List Value} {x : DataW H × List MemPlace} (h : DataW.trod enc Try.prog W 0 (fun _ => true) true fuel 41 cs = some x) (hw : WtD 41 x.1) : ∃ (bs : List Int) (v : Value), cs = [v] ∧ Rd W v bs ∧ (∀ b ∈ bs, 0 ≤ b ∧ b ≤ 255) ∧ bs.length ≤ 140737488351232 := by
  have hshape : cs = [.slice none 0 0] ∨ ∃ ad len cap, cs = [.slice (some ad) len cap] := by
    rcases DataW.trod_slice Try.underlying41 h with ⟨e, _⟩ | ⟨ad, len, cap, elems, rest, n', hn', e, _⟩
    · exact .inl e
    · exact .inr ⟨ad, len, cap, e⟩
  obtain ⟨l, v, rfl, h1, h2⟩ := open_rowD (k := 1) (R := fun (x : Int) cs => cs = [.int .u8 x] ∧ 0 ≤ x ∧ x ≤ 255) Try.underlying41 (by kernel_rfl) (by decide) (by kernel_rfl) h hw (fun n' cs' y _ hy _ => by
    obtain ⟨k, rfl, _, hk⟩ := DataW.trod_int Try.underlying5 hy
    have : 0 ≤ k ∧ k ≤ 255 := by simpa [Lit.wf, IntKind.min, IntKind.max, IntKind.signed, IntKind.bits] using hk
    exact ⟨k, rfl, this⟩)
  obtain ⟨h3, h4⟩ := RdK.bothD (R := fun (x : Int) cs => cs = [.int .u8 x]) (Q := fun x => 0 ≤ x ∧ x ≤ 255) h1
  obtain ⟨a, c, rfl, hl, hm, hc⟩ := h3
  refine ⟨l, _, rfl, ⟨a, c, rfl, hl, hm, fun e => ?_, fun y hy i hi => ?_⟩, h4, h2⟩
  · subst e
    rcases hshape with e | ⟨ad, len, cap, e⟩
    · simp only [List.cons.injEq, Value.slice.injEq, and_true, true_and] at e
      exact ⟨List.eq_nil_of_length_eq_zero e.1, e.2⟩
    · simp at e
  · obtain ⟨b, off, cs, e, _, _, _, e2, e3⟩ := hc i hi
    subst e2
    rw [e] at hy
    obtain rfl := Option.some.inj hy
    have := e3 0 _ rfl
    rw [Nat.mul_one, Nat.add_zero] at this
    rw [add_plain]
    simpa [List.getD, hi] using this
theorem open_bss {a : Option Addr} {len cap : Nat} {d : DataW H} {p : List MemPlace} (h : DataW.Trod enc Try.prog W 0 (fun _ => true) true 30 (.slice a len cap) d p) (hw : WtD 30 d) : ∃ l : List (List Int), RdBw W l (.slice a len cap) ∧ ∀ x ∈ l, ∀ b ∈ x, 0 ≤ b ∧ b ≤ 255 := by
  obtain ⟨fuel, hf⟩ := h
  obtain ⟨l, v, e, h1, _⟩ := open_rowD (k := 1) (R := fun (x : List Int) cs => (∃ a c, cs = [.slice a x.length c] ∧ Rd W (.slice a x.length c) x) ∧ ∀ b ∈ x, 0 ≤ b ∧ b ≤ 255) Try.underlying30 (by kernel_rfl) (by decide) (by kernel_rfl) hf hw (fun n' cs' y _ hy hwy => by
    obtain ⟨bs, v, rfl, hr, hb, _⟩ := open_bytesD hy hwy
    obtain ⟨ra, rc, rfl, _⟩ := id hr
    exact ⟨bs, ⟨ra, rc, rfl, hr⟩, hb⟩)
  have e' : v = .slice a len cap := by simpa [Value.cells] using e.symm
  subst e'
  obtain ⟨h3, h4⟩ := RdK.bothD h1
  exact ⟨l, h3, h4⟩
end
end Go.Proofs.Ytpblcahcpobicaa
