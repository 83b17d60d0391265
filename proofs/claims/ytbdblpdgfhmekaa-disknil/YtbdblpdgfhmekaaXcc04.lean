import Derived.Test.YtbdblpdgfhmekaaXcc03
import Derived.Test.YtbdblpdgfhmekaaXcc01
import Derived.ProofKit
import Derived.OpenShut
import Derived.ShutString
import Derived.ChangeOld
import Derived.SizedLaws
import Derived.Below
import Derived.WalkKit
import Derived.Test.YtbdblpdgfhmekaaXcc02
import Derived.Deep.RegionHeldLaw
import Derived.Deep.DeepCutAuto
import Derived.Test.YtbdblpdgfhmekaaRows
import Derived.Deep.Slices

/- The program's disk: operations on a nil one; the laws' waking. -/
namespace Go.Proofs.Ytbdblpdgfhmekaa
open Go.RowKit Go.Lib Go.Maps
set_option linter.unusedSimpArgs false
set_option linter.unusedVariables false
attribute [local go_sem ↓] Go.wp_at_zero Go.wp_at_succ

set_option maxRecDepth 100000 in
set_option maxHeartbeats 2000000 in
theorem doper_nil (w : World) (n : Int) : Calls Try.prog 38 #[.pointer none, .int .i64 n] w fun e w' => e = .returned (.tuple #[cv zC, .int .i64 1]) ∧ Below w.heap.size w w' := by
  have hal : Below w.heap.size w (w.alloc (.cells #[.slice none 0 0, .int .i64 0] 63)) := (Below.refl _ _).alloc (Nat.le_refl _) _
  have hR1 : Bn (w.alloc (.cells #[.slice none 0 0, .int .i64 0] 63)) w.heap.size [.slice none 0 0, .int .i64 0] := Bn2.new _ _
  have hfn := fun W => dfind_nil W n
  unfold cv zC at hfn
  simp only at hfn
  go_enter Try.func38, Try.ntmps38
  go_upto_region 1 with fail
  generalize w.alloc (.cells #[.slice none 0 0, .int .i64 0] 63) = w1 at *
  go_upto_region 2 with (first
    | (go_at_call 33; refine (hfn _).mono ?_; rintro e w2 ⟨rfl, b2⟩; clear hfn)
    | fail)
  have b3 : Below w2.heap.size w2 (w2.alloc (.cells #[.slice none 0 0, .int .i64 0] 63)) := (Below.refl _ _).alloc (Nat.le_refl _) _
  have hR3 := (hR1.on b2).on b3
  have hbw : Below w.heap.size w (w2.alloc (.cells #[.slice none 0 0, .int .i64 0] 63)) := (hal.trans (b2.mono (by have := hal.size; omega))).trans (b3.mono (by have := hal.size; have := b2.size; omega))
  generalize w2.alloc (.cells #[.slice none 0 0, .int .i64 0] 63) = w3 at *
  obtain ⟨r0, q0⟩ := hR3 0 _ rfl
  obtain ⟨r1, q1⟩ := hR3 1 _ rfl
  have HR := hideD ((hR3.set (i := 0) (by simp) (.slice none 0 0)).set (i := 1) (by simp) (.int .i64 0))
  have HS := hideD ((hbw.setCell (p := ⟨w.heap.size, 0, none⟩) (Nat.le_refl _) (.slice none 0 0)).setCell (p := ⟨w.heap.size, 1, none⟩) (Nat.le_refl _) (.int .i64 0))
  clear hR1 hR3 hbw b2 b3 hal
  go_wp2
  exact bodyPost_ret (doper_res HR.out rfl rfl) rfl ⟨rfl, HS.out⟩
set_option maxRecDepth 100000 in
set_option maxHeartbeats 2000000 in
theorem dsync_nil (w : World) (n : Int) : Calls Try.prog 20 #[.pointer none, .int .i64 n] w fun e w' => e = .returned (.int .i64 1) ∧ Below w.heap.size w w' := by
  have hop := fun W => doper_nil W n
  unfold cv zC at hop
  simp only at hop
  go_enter Try.func20, Try.ntmps20
  go_wp2_with (first
    | (go_at_call 38; refine (hop _).mono ?_; rintro e w2 ⟨rfl, b2⟩; clear hop)
    | fail)
  go_ret
  exact ⟨rfl, b2.alloc b2.size _⟩
set_option maxRecDepth 100000 in
set_option maxHeartbeats 2000000 in
theorem ddrop_nil (w : World) (n : Int) : Calls Try.prog 21 #[.pointer none, .int .i64 n] w fun e w' => e = .returned (.int .i64 1) ∧ Below w.heap.size w w' := by
  have hop := fun W => doper_nil W n
  unfold cv zC at hop
  simp only at hop
  go_enter Try.func21, Try.ntmps21
  go_wp2_with (first
    | (go_at_call 38; refine (hop _).mono ?_; rintro e w2 ⟨rfl, b2⟩; clear hop)
    | fail)
  go_ret
  exact ⟨rfl, b2.alloc b2.size _⟩
theorem dk_conv (w : World) (C : Array Value) (n c : Nat) :
    (convert 30 30 (.slice (some ⟨w.heap.size, 0, none⟩) n c)).run Try.prog (w.alloc (.cells C 5)) = .ok (.slice (some ⟨w.heap.size, 0, none⟩) n c) (w.alloc (.cells C 5 (C.size, C.size + 1))) :=
  Lib.run_convert_bytes_const (P := Try.prog) w 30 5 C n c Try.underlying30 Try.underlying5
set_option maxRecDepth 100000 in
set_option maxHeartbeats 2000000 in
theorem dawake_any (w : World) : Calls Try.prog 6 #[] w fun e w' => e = .returned (.bool true) ∧ Below w.heap.size w w' := by
  have hnew := fun W => dnew_any W 100
  have hT : ∀ W : World, Rd (W.alloc (.cells #[.int .u8 97, .int .u8 98] 5 (2, 3))) (.slice (some ⟨W.heap.size, 0, none⟩) 2 2) [97, 98] := fun W => by
    refine ⟨_, _, rfl, by simp, by simp [maxLen], ⟨fun h => by simp at h, fun x hx i hi => ?_⟩⟩
    obtain rfl := Option.some.inj hx
    match i, hi with
    | 0, _ => exact (cell_of_row _ _ 0 _ _ (2, 3) (heap_alloc_new W _)).trans rfl
    | 1, _ => exact (cell_of_row _ _ 1 _ _ (2, 3) (heap_alloc_new W _)).trans rfl
  go_enter Try.func6, Try.ntmps6
  go_upto_region 2 with (first
    | (go_at_call 8; refine (hnew _).mono ?_; rintro e w1 ⟨rfl, p1, b1⟩; clear hnew)
    | fail)
  have p2 := p1.on ((Below.refl w1.heap.size w1).alloc (Nat.le_refl _) (.cells #[.int .u8 97, .int .u8 98] 5 (2, 3)))
  have hR2 := hT w1
  have hsz : w.heap.size < w1.heap.size := p1.lt
  have hbw : Below w.heap.size w (w1.alloc (.cells #[.int .u8 97, .int .u8 98] 5 (2, 3))) := b1.alloc (by omega) _
  have hs1 : (w1.alloc (.cells #[.int .u8 97, .int .u8 98] 5 (2, 3))).heap.size = w1.heap.size + 1 := by simp
  have hkv := dk_conv w1 #[.int .u8 97, .int .u8 98] 2 2
  simp only [List.size_toArray, List.length_cons, List.length_nil, Nat.reduceAdd] at hkv
  have hap := dapp_any (n := 1) (v := .slice (some ⟨w1.heap.size, 0, none⟩) 2 2) (bs := [97, 98]) p2 (by decide) (by decide) (by decide) (by decide) (by decide) (by decide) (fun w' k => by
    obtain ⟨a, c, e1, e2, e3, e4, e5⟩ := hR2
    exact ⟨a, c, e1, e2, e3, e4, fun x hx i hi => (World.cell?_of_block (k.block _ (World.block_lt_of_cell? _ _ (e5 x hx i hi)) (fun e => by
      simp only [Value.slice.injEq] at e1
      obtain ⟨e1, _⟩ := e1
      rw [← e1] at hx
      obtain rfl := Option.some.inj hx
      have : (Addr.add ⟨w1.heap.size, 0, none⟩ i).block = w1.heap.size := by unfold Addr.add; split <;> rfl
      omega))).trans (e5 x hx i hi)⟩)
  have hr : appD ⟨[], max 100 0, -1, false⟩ 1 [97, 98] = (⟨[(1, [97, 98], 0)], 100, -1, false⟩, 0) := rfl
  rw [hr] at hap
  have hus := fun W F (h : PD W w.heap.size F ⟨[(1, [97, 98], 0)], 100, -1, false⟩) => dused_any h
  have hu2 : usM [((1 : Int), ([97, 98] : List Int), (0 : Nat))] = 2 := rfl
  simp only [hu2] at hus
  have HR := hideD hR2
  have HP := hideD p2
  clear hT p1 p2 hR2 b1 hr
  go_wp2_with (first
    | (go_at_call 19; refine hap.mono ?_; rintro e w3 ⟨rfl, p3, k3⟩; clear hap; have hu3 := hus _ _ p3; clear hus)
    | (go_at_call 23; refine hu3.mono ?_; rintro e w4 ⟨rfl, rfl⟩; clear hu3)
    | fail)
  go_ret
  exact ⟨rfl, hbw.trans (k3.below (fun j hj => by have : j = w.heap.size := hj; omega) (by omega))⟩

structure OpM where
  kind : Int
  a : Int
  b : Int
  y : Int
  bs : List Int
  ls : List Int
def rIntD : Int → List Value → Prop := fun x cs => cs = [.int .i64 x]
abbrev RdI (w : World) (l : List Int) (v : Value) : Prop := RdK (fun _ => True) w 1 rIntD l v
def rOp (w : World) : OpM → List Value → Prop := fun x cs => ∃ bv lv, cs = [.int .i64 x.kind, .int .i64 x.a, .int .i64 x.b, .int .u8 x.y, bv, lv] ∧ Rd w bv x.bs ∧ RdI w x.ls lv
abbrev RdO (w : World) (l : List OpM) (v : Value) : Prop := RdK (fun _ => True) w 6 (rOp w) l v
structure WfO (x : OpM) : Prop where
  a : (Lit.int .i64 x.a).wf = true
  b : (Lit.int .i64 x.b).wf = true
  y : 0 ≤ x.y ∧ x.y ≤ 255
  bs : ∀ b ∈ x.bs, 0 ≤ b ∧ b ≤ 255
  bl : x.bs.length ≤ 140737488351232
  ll : x.ls.length ≤ 140737488351232
theorem RdI.on {w w' : World} {l : List Int} {v : Value} (h : RdI w l v) (hb : Below w.heap.size w w') : RdI w' l v := RdK.keep h (fun _ _ _ h => h) (fun b _ hlt => ⟨trivial, hb.block b hlt⟩)
theorem rOp_on {w w' : World} {x : OpM} {cs : List Value} (h : rOp w x cs) (hb : Below w.heap.size w w') : rOp w' x cs := by
  obtain ⟨bv, lv, h1, h2, h3⟩ := h
  exact ⟨bv, lv, h1, rd_on h2 hb, h3.on hb⟩
theorem RdO.on {w w' : World} {l : List OpM} {v : Value} (h : RdO w l v) (hb : Below w.heap.size w w') : RdO w' l v := RdK.keep h (fun _ _ _ h => rOp_on h hb) (fun b _ hlt => ⟨trivial, hb.block b hlt⟩)
/-- Few: from call i on, n bytes counted. -/
def fewL : Nat → Nat → List OpM → Bool
  | _, _, [] => true
  | i, n, x :: r => if 150 ≤ i ∨ 50000 < n + x.bs.length ∨ 100 < x.ls.length then false else fewL (i + 1) (n + x.bs.length) r
def smO (l : List OpM) (j : Nat) : Nat := ((l.take j).map fun x => x.bs.length).sum
theorem smO_succ {l : List OpM} {j : Nat} (h : j < l.length) : smO l (j + 1) = smO l j + (l[j]).bs.length := by
  unfold smO
  rw [List.take_succ_eq_append_getElem h, List.map_append, List.sum_append]
  simp
theorem few_at {l : List OpM} {j : Nat} (h : j < l.length) : fewL j (smO l j) (l.drop j) = if 150 ≤ j ∨ 50000 < smO l (j + 1) ∨ 100 < (l[j]).ls.length then false else fewL (j + 1) (smO l (j + 1)) (l.drop (j + 1)) := by
  rw [List.drop_eq_getElem_cons h]
  conv => lhs; unfold fewL
  rw [← smO_succ h]
set_option maxRecDepth 100000 in
set_option maxHeartbeats 1000000 in
theorem few_any {w : World} {l : List OpM} {v : Value} (h : RdO w l v) (hw : ∀ x ∈ l, WfO x) : Calls Try.prog 7 #[v] w fun e w' => e = .returned (.bool (fewL 0 0 l)) ∧ w = w' := by
  obtain ⟨a, c, rfl, hlc, hcm, hcell⟩ := h
  unfold maxLen at hcm
  obtain ⟨R, hR⟩ : ∃ R, fewL 0 0 l = R := ⟨_, rfl⟩
  rw [hR]
  have HL := hideD hcell
  have HW := hideD hw
  have H0 := hideD (show fewL 0 (smO l 0) (l.drop 0) = R from hR)
  clear hcell hw hR
  go_enter Try.func7, Try.ntmps7
  go_wp2
  go_loopw [3, 7] (fun t ix wr => ∃ (j : Nat), j ≤ l.length ∧ ix = .int .i64 (j : Int) ∧ t = .int .i64 (smO l j : Int) ∧ smO l j ≤ 50000 ∧ w = wr ∧ Hid (fewL j (smO l j) (l.drop j) = R)) (fun _ ix _ => l.length - (RowKit.intOf ix).toNat)
  case atStart => exact ⟨0, Nat.zero_le _, rfl, by simp [smO], by simp [smO], rfl, H0⟩
  case round =>
    obtain ⟨j, hj, rfl, rfl, hsm, rfl, HF⟩ := hrel
    clear H0
    by_cases hlt : j < l.length
    · obtain ⟨b, off, cs, ha, _, hbl, _, ⟨bv, lv, rfl, h4, h5⟩, hcs⟩ := HL.out j hlt
      subst ha
      obtain ⟨ba, bc, rfl, _⟩ := h4
      obtain ⟨la, lc, rfl, _⟩ := h5.form
      have c4 := hcs 4 _ rfl
      have c5 := hcs 5 _ rfl
      have hwf := HW.out _ (List.getElem_mem hlt)
      have hfe := HF.out
      rw [few_at hlt] at hfe
      have hs1 := smO_succ hlt
      have b1 := hwf.bl
      have b2 := hwf.ll
      obtain ⟨bl, hbl'⟩ : ∃ x, (l[j]).bs.length = x := ⟨_, rfl⟩
      obtain ⟨ll, hll'⟩ : ∃ x, (l[j]).ls.length = x := ⟨_, rfl⟩
      rw [hbl'] at c4 hs1 b1
      rw [hll'] at c5 hfe b2
      have k1 : (j : Int) < (l.length : Int) := by omega
      have k2 : (0 : Int) ≤ (j : Int) := by omega
      obtain ⟨s1, hs1'⟩ : ∃ x, smO l (j + 1) = x := ⟨_, rfl⟩
      rw [hs1'] at hfe hs1
      have hwr := hideD (show wrap64 ((smO l j : Int) + (bl : Int)) = (s1 : Int) by unfold wrap64; omega)
      have HFE := hideD hfe
      have HS1 := hideD hs1'
      have HS2 := hideD hs1
      have HSM := hideD hsm
      clear hwf HF hfe hs1' hbl' hll' hcs hbl hs1 hsm b1 b2
      by_cases g1 : 150 ≤ j
      · have i1 : (j : Int) ≥ 150 := by omega
        replace hwr := hwr.out
        go_wp2
        go_ret
        have := HFE.out
        rw [if_pos (.inl g1)] at this
        exact ⟨by rw [← this]; rfl, rfl⟩
      have i1 : ¬ (j : Int) ≥ 150 := by omega
      by_cases g2 : 50000 < s1
      · have i2 : (s1 : Int) > 50000 := by omega
        replace hwr := hwr.out
        go_wp2
        go_ret
        have := HFE.out
        rw [if_pos (.inr (.inl g2))] at this
        exact ⟨by rw [← this]; rfl, rfl⟩
      have i2 : ¬ (s1 : Int) > 50000 := by omega
      by_cases g3 : 100 < ll
      · have i3 : (ll : Int) > 100 := by omega
        replace hwr := hwr.out
        go_wp2
        go_ret
        have := HFE.out
        rw [if_pos (.inr (.inr g3))] at this
        exact ⟨by rw [← this]; rfl, rfl⟩
      have i3 : ¬ (ll : Int) > 100 := by omega
      have HWR := hwr
      replace hwr := hwr.out
      go_wp2
      clear hwr
      go_roundw
      case rel =>
        have h9 := HFE.out
        rw [if_neg (by omega)] at h9
        refine ⟨j + 1, hlt, by go_num, ?_, ?_, ?_, ?_⟩
        · rw [HS1.out, HWR.out]
        · rw [HS1.out]
          omega
        · first | rfl | trivial
        · rw [HS1.out]
          exact h9
      case measure => simp [RowKit.intOf]; omega
    · have k1 : ¬ (j : Int) < (l.length : Int) := by omega
      have hR := HF.out
      have e : l.drop j = [] := List.drop_eq_nil_of_le (by omega)
      rw [e] at hR
      have hR2 : true = R := by rw [← hR]; rfl
      subst hR2
      clear HL HW HF hR e
      go_wp2
      go_ret
      exact ⟨rfl, rfl⟩

theorem rdO_one {w : World} {x : OpM} {cs : List Value} (h : rOp w x cs) (t : TypeId) : RdO (w.alloc (.cells cs.toArray t)) [x] (.slice (some ⟨w.heap.size, 0, none⟩) 1 1) := by
  refine ⟨_, 1, rfl, by simp, by simp [maxLen], fun i hi => ?_⟩
  have e : i = 0 := by simpa using hi
  subst e
  have hal : Below w.heap.size w (w.alloc (.cells cs.toArray t)) := (Below.refl _ _).alloc (Nat.le_refl _) _
  have hlen : cs.length = 6 := by
    obtain ⟨bv, lv, rfl, _⟩ := h
    rfl
  refine ⟨w.heap.size, 0, cs, rfl, trivial, by simp, hlen, rOp_on h hal, fun j u hj => ?_⟩
  rw [Nat.zero_mul, Nat.add_zero, Nat.zero_add]
  exact (Bn.new w cs t _ rfl j u hj).1
set_option maxRecDepth 100000 in
set_option maxHeartbeats 4000000 in
theorem diskNil_walk {w : World} {x : OpM} {cs : Array Value} (h : rOp w x cs.toList) (hw : WfO x) : Calls Try.prog 5 #[.agg cs] w fun e w' => e = .returned (.bool true) ∧ Below w.heap.size w w' := by
  obtain ⟨K, A, B, Y, bs, ls⟩ := x
  obtain ⟨bv, lv, hcs, h4, h5⟩ := id h
  simp only at hcs h4 h5
  obtain rfl : cs = #[.int .i64 K, .int .i64 A, .int .i64 B, .int .u8 Y, bv, lv] := by rw [← Array.toArray_toList (xs := cs), hcs]
  obtain ⟨ba, bc, rfl, _⟩ := id h4
  obtain ⟨la, lc, rfl, _⟩ := h5.form
  simp only at h
  have hal : Below w.heap.size w (w.alloc (.cells #[.int .i64 K, .int .i64 A, .int .i64 B, .int .u8 Y, .slice ba bs.length bc, .slice la ls.length lc] 33)) := (Below.refl _ _).alloc (Nat.le_refl _) _
  have hb : Bn (w.alloc (.cells #[.int .i64 K, .int .i64 A, .int .i64 B, .int .u8 Y, .slice ba bs.length bc, .slice la ls.length lc] 33)) w.heap.size [.int .i64 K, .int .i64 A, .int .i64 B, .int .u8 Y, .slice ba bs.length bc, .slice la ls.length lc] := Bn.new w [.int .i64 K, .int .i64 A, .int .i64 B, .int .u8 Y, .slice ba bs.length bc, .slice la ls.length lc] _ _ rfl
  have haw := fun W => dawake_any W
  obtain ⟨R, hR⟩ : ∃ R, fewL 0 0 [⟨K, A, B, Y, bs, ls⟩] = R := ⟨_, rfl⟩
  have hfew := fun (W : World) (b : Below w.heap.size w W) => few_any (rdO_one (rOp_on h b) 33) (fun y hy => by
    rw [List.mem_singleton.1 hy]
    exact hw)
  simp only [hR] at hfew
  obtain ⟨nb, hnb⟩ : ∃ A, bs.length = A := ⟨_, rfl⟩
  obtain ⟨nl, hnl⟩ : ∃ A, ls.length = A := ⟨_, rfl⟩
  rw [hnb, hnl] at hal hb ⊢
  simp only [hnb, hnl] at hfew
  have h1 := fun W => dfuse_nil W A
  have h2 := fun W => droom_nil W A
  have h3 := fun W => dcrash_nil W (.slice la nl lc)
  have h6 := fun W => dread_nil W A
  have h7 := fun W => dapp_nil W A (.slice ba nb bc)
  have h8 := fun W => dsync_nil W A
  have h9 := fun W => ddrop_nil W A
  have h10 := fun W => dspoil_nil W A B Y
  have h11 := fun W => dused_nil W
  have h12 := fun W => dsegs_nil W
  have h13 := fun W => dsynced_nil W A
  have h14 := fun W => ddown_nil W
  clear h h4 h5 hcs hnb hnl hR hw
  go_enter Try.func5, Try.ntmps5
  go_upto_region 1 with fail
  generalize w.alloc (.cells #[.int .i64 K, .int .i64 A, .int .i64 B, .int .u8 Y, .slice ba nb bc, .slice la nl lc] 33) = w1 at *
  have hbw := hal
  cases R with
  | false =>
    go_wp2_with (first
      | (go_at_call 6; refine (haw _).mono ?_; rintro e w2 ⟨rfl, b2⟩; have hb := hb.on b2; have hbw := hbw.trans (b2.mono hbw.size); obtain ⟨c0, _⟩ := hb 0 _ rfl; obtain ⟨c1, _⟩ := hb 1 _ rfl; obtain ⟨c2, _⟩ := hb 2 _ rfl; obtain ⟨c3, _⟩ := hb 3 _ rfl; obtain ⟨c4, _⟩ := hb 4 _ rfl; obtain ⟨c5, _⟩ := hb 5 _ rfl)
      | (go_at_call 7; refine (hfew _ hbw).mono ?_; rintro e w3 ⟨rfl, rfl⟩; have ba1 : Below w2.heap.size w2 (w2.alloc (.cells #[.int .i64 K, .int .i64 A, .int .i64 B, .int .u8 Y, .slice ba nb bc, .slice la nl lc] 33)) := (Below.refl _ _).alloc (Nat.le_refl _) _; have hb := hb.on ba1; have hbw := hbw.trans (ba1.mono hbw.size))
      | fail)
    go_ret
    exact ⟨rfl, hbw⟩
  | true =>
    go_wp2_with (first
      | (go_at_call 6; refine (haw _).mono ?_; rintro e w2 ⟨rfl, b2⟩; have hb := hb.on b2; have hbw := hbw.trans (b2.mono hbw.size); obtain ⟨c0, _⟩ := hb 0 _ rfl; obtain ⟨c1, _⟩ := hb 1 _ rfl; obtain ⟨c2, _⟩ := hb 2 _ rfl; obtain ⟨c3, _⟩ := hb 3 _ rfl; obtain ⟨c4, _⟩ := hb 4 _ rfl; obtain ⟨c5, _⟩ := hb 5 _ rfl)
      | (go_at_call 7; refine (hfew _ hbw).mono ?_; rintro e w3 ⟨rfl, rfl⟩; have ba1 : Below w2.heap.size w2 (w2.alloc (.cells #[.int .i64 K, .int .i64 A, .int .i64 B, .int .u8 Y, .slice ba nb bc, .slice la nl lc] 33)) := (Below.refl _ _).alloc (Nat.le_refl _) _; have hb := hb.on ba1; have hbw := hbw.trans (ba1.mono hbw.size); obtain ⟨c0, _⟩ := hb 0 _ rfl; obtain ⟨c1, _⟩ := hb 1 _ rfl; obtain ⟨c2, _⟩ := hb 2 _ rfl; obtain ⟨c3, _⟩ := hb 3 _ rfl; obtain ⟨c4, _⟩ := hb 4 _ rfl; obtain ⟨c5, _⟩ := hb 5 _ rfl)
      | (go_at_call 17; refine (h1 _).mono ?_; rintro e w4 ⟨rfl, rfl⟩)
      | (go_at_call 18; refine (h2 _).mono ?_; rintro e w4 ⟨rfl, rfl⟩)
      | (go_at_call 15; refine (h3 _).mono ?_; rintro e w4 ⟨rfl, rfl⟩)
      | (go_at_call 13; refine (h6 _).mono ?_; rintro e w4 ⟨⟨v', rfl, _⟩, b4⟩; have hb := hb.on b4; have hbw := hbw.trans (b4.mono hbw.size); obtain ⟨c0, _⟩ := hb 0 _ rfl; obtain ⟨c1, _⟩ := hb 1 _ rfl; obtain ⟨c2, _⟩ := hb 2 _ rfl; obtain ⟨c3, _⟩ := hb 3 _ rfl; obtain ⟨c4, _⟩ := hb 4 _ rfl; obtain ⟨c5, _⟩ := hb 5 _ rfl)
      | (go_at_call 19; refine (h7 _).mono ?_; rintro e w5 ⟨rfl, rfl⟩)
      | (go_at_call 20; refine (h8 _).mono ?_; rintro e w6 ⟨rfl, b6⟩; have hb := hb.on b6; have hbw := hbw.trans (b6.mono hbw.size); obtain ⟨c0, _⟩ := hb 0 _ rfl; obtain ⟨c1, _⟩ := hb 1 _ rfl; obtain ⟨c2, _⟩ := hb 2 _ rfl; obtain ⟨c3, _⟩ := hb 3 _ rfl; obtain ⟨c4, _⟩ := hb 4 _ rfl; obtain ⟨c5, _⟩ := hb 5 _ rfl)
      | (go_at_call 21; refine (h9 _).mono ?_; rintro e w7 ⟨rfl, b7⟩; have hb := hb.on b7; have hbw := hbw.trans (b7.mono hbw.size); obtain ⟨c0, _⟩ := hb 0 _ rfl; obtain ⟨c1, _⟩ := hb 1 _ rfl; obtain ⟨c2, _⟩ := hb 2 _ rfl; obtain ⟨c3, _⟩ := hb 3 _ rfl; obtain ⟨c4, _⟩ := hb 4 _ rfl; obtain ⟨c5, _⟩ := hb 5 _ rfl)
      | (go_at_call 22; refine (h10 _).mono ?_; rintro e w8 ⟨rfl, rfl⟩)
      | (go_at_call 23; refine (h11 _).mono ?_; rintro e w8 ⟨rfl, rfl⟩)
      | (go_at_call 12; refine (h12 _).mono ?_; rintro e w8 ⟨rfl, rfl⟩)
      | (go_at_call 14; refine (h13 _).mono ?_; rintro e w8 ⟨rfl, rfl⟩)
      | (go_at_call 16; refine (h14 _).mono ?_; rintro e w8 ⟨rfl, rfl⟩)
      | fail)
    go_ret
    exact ⟨rfl, hbw⟩
end Go.Proofs.Ytbdblpdgfhmekaa

/- An argument that is a slice of bytes, opened: the bytes that it reads as, each from 0 to 255, and their number within the form's reach. -/
namespace Go.Proofs.Ytbdblpdgfhmekaa
open Go.ChangeShapes Go.WideShapes Go.ChangeAt Go.RowKit

end Go.Proofs.Ytbdblpdgfhmekaa

/- Nodes: which one lies in which, by how deep they lie, and by their parents. Math alone. -/
namespace Go.Proofs.Ytbdblpdgfhmekaa
set_option linter.unusedVariables false

/-- The last one ahead of k that lies less than d deep. -/
def ppar (D : Nat → Int) (d : Int) : Nat → Int
  | 0 => -1
  | k + 1 => if D k < d then (k : Int) else ppar D d k
/-- The first one from j on, of f, that lies no more than d deep. -/
def pbeh (D : Nat → Int) (d : Int) : Nat → Nat → Nat
  | 0, j => j
  | f + 1, j => if d < D j then pbeh D d f (j + 1) else j
/-- Each lies at most 1 deeper than the one ahead. -/
def nst (D : Nat → Int) (n : Nat) : Prop := ∀ i < n, 0 ≤ D i ∧ (i = 0 → D i ≤ 0) ∧ (0 < i → D i ≤ D (i - 1) + 1)
/-- What is told of the nodes follows of how deep they lie. -/
def FmP (n : Nat) (D P B : Nat → Int) (L : Nat → Bool) : Prop :=
  n ≤ 40 ∧ nst D n ∧ ∀ i < n, P i = ppar D (D i) i ∧ B i = (pbeh D (D i) (n - (i + 1)) (i + 1) : Nat) ∧ L i = decide (B i = (i : Int) + 1)
end Go.Proofs.Ytbdblpdgfhmekaa

/- Nodes in memory. -/
namespace Go.Proofs.Ytbdblpdgfhmekaa
open Go.RowKit Go.Lib
set_option linter.unusedSimpArgs false
set_option linter.unusedVariables false

instance decNst (D : Nat → Int) (n : Nat) : Decidable (nst D n) := by unfold nst; infer_instance
instance decFmP (n : Nat) (D P B : Nat → Int) (L : Nat → Bool) : Decidable (FmP n D P B L) := by unfold FmP; infer_instance
theorem RdK.on {α : Type} {ok : Nat → Prop} {w w' : World} {k : Nat} {R : (Nat → Prop) → World → α → List Value → Prop} {v : Value} {l : List α} (hR : Kp R) (h : RdK ok w k (R ok w) l v) (hb : Below w.heap.size w w') : RdK ok w' k (R ok w') l v :=
  h.stay hR (fun b hk hlt => ⟨hk, hb.block b hlt⟩)
end Go.Proofs.Ytbdblpdgfhmekaa

/- Arguments that are rows of nodes, opened. -/
namespace Go.Proofs.Ytbdblpdgfhmekaa
open Go.ChangeShapes Go.WideShapes Go.ChangeAt Go.RowKit
set_option linter.unusedSimpArgs false
set_option linter.unusedVariables false

theorem pickD {α : Type} {Q : Nat → α → Prop} : ∀ n, (∀ i, i < n → ∃ y, Q i y) → ∃ l : List α, l.length = n ∧ ∀ i (h : i < l.length), Q i l[i]
  | 0, _ => ⟨[], rfl, fun i h => absurd h (by simp)⟩
  | n + 1, h => by
    obtain ⟨l, hl, hq⟩ := pickD n (fun i hi => h i (by omega))
    obtain ⟨y, hy⟩ := h n (by omega)
    refine ⟨l ++ [y], by simp [hl], fun i hi => ?_⟩
    by_cases hin : i < l.length
    · rw [List.getElem_append_left hin]
      exact hq i hin
    · have e : i = l.length := by simp at hi; omega
      subst e
      simp only [List.getElem_concat_length]
      rw [hl]
      exact hy
theorem weights_allD {H : Type} {P : Program} {e : TypeId} : ∀ {l : List (DataW H)} {d : DataW H}, d ∈ l → ∀ n ∈ d.weights P e, n ∈ DataW.weightsAll P e l
  | x :: r, d, h, n, hn => by
    simp only [DataW.weightsAll, List.mem_append]
    rcases List.mem_cons.1 h with rfl | h
    · exact .inl hn
    · exact .inr (weights_allD h n hn)
/-- What is met is not larger than what there may be. -/
def WtD {H : Type} (t : TypeId) (d : DataW H) : Prop := ∀ n ∈ d.weights Try.prog t, n ≤ reachBytes
theorem WtD.field {H : Type} {t u : TypeId} {fs : Array Field} {f : Field} {xs : List (DataW H × List MemPlace)} {y : DataW H × List MemPlace} (hu : Try.prog.underlying t = some (.struct fs)) (h : WtD t (.agg (xs.map (·.1)))) (j : Nat) (hf : fs[j]? = some f) (hy : xs[j]? = some y) (ht : f.type = u) : WtD u y.1 := fun n hn => by
  refine h n ?_
  simp only [DataW.weights, hu]
  refine DataW.weights_mem_each (j := j) (t := u) (d := y.1) ?_ (by simp [hy]) n hn
  simp [hf, ht]
theorem spot_noneD {w : World} {a : Addr} {v : Value} (h : w.cell? (a.add 0) = some v) : a = ⟨a.block, a.off, none⟩ := by
  rw [show a.add 0 = a from by simp [Addr.add]] at h
  unfold World.cell? at h
  split at h
  · obtain ⟨b, o, s⟩ := a
    cases s with
    | none => rfl
    | some x => simp at h
  · cases h
theorem RdK.bothD {α : Type} {ok : Nat → Prop} {w : World} {k : Nat} {R : α → List Value → Prop} {Q : α → Prop} {l : List α} {v : Value} (h : RdK ok w k (fun x cs => R x cs ∧ Q x) l v) : RdK ok w k R l v ∧ ∀ x ∈ l, Q x := by
  obtain ⟨a, cap, h1, h2, h3, h4⟩ := h
  refine ⟨⟨a, cap, h1, h2, h3, fun i hi => ?_⟩, fun x hx => ?_⟩
  · obtain ⟨b, off, cs, q1, q2, q3, q4, q5, q6⟩ := h4 i hi
    exact ⟨b, off, cs, q1, q2, q3, q4, q5.1, q6⟩
  · obtain ⟨i, hi, rfl⟩ := List.getElem_of_mem hx
    obtain ⟨b, off, cs, q1, q2, q3, q4, q5, q6⟩ := h4 i hi
    exact q5.2
section
variable {H : Type} {enc : TypeId × Value → H} {W : World}
theorem open_rowD {α : Type} {k : Nat} {R : α → List Value → Prop} {sl el : TypeId} (hu : Try.prog.underlying sl = some (.slice el)) (hc : Try.prog.cellsOf el = k) (hk : 0 < k) (hby : decide (1 ≤ Try.prog.bytesOf el) = true) {fuel : Nat} {cs : List Value} {x : DataW H × List MemPlace}
    (h : DataW.trod enc Try.prog W 0 (fun _ => true) true fuel sl cs = some x) (hw : WtD sl x.1) (hel : ∀ n' cs' y, fuel = n' + 1 → DataW.trod enc Try.prog W 0 (fun _ => true) true n' el cs' = some y → WtD el y.1 → ∃ a, R a cs') :
    ∃ (l : List α) (v : Value), cs = [v] ∧ RdK (fun _ => True) W k R l v ∧ l.length ≤ 140737488351232 := by
  rcases DataW.trod_slice hu h with ⟨rfl, _⟩ | ⟨ad, len, cap, elems, rest, n', hn', rfl, rfl, _, hlc, hcm, hel', helt, _, _⟩
  · exact ⟨[], _, rfl, rdK_none _ _ _ _, by simp⟩
  · have hlw : len ≤ 140737488351232 := by
      have h0 := hw ((elems.length + rest.length) * Try.prog.bytesOf el) (by simp [DataW.weights, hu])
      have h1 : (elems.length + rest.length) * 1 ≤ (elems.length + rest.length) * Try.prog.bytesOf el := Nat.mul_le_mul_left _ (of_decide_eq_true hby)
      have h2 : reachBytes = 140737488351232 := rfl
      omega
    rw [hc] at helt
    have hall : ∀ i, i < len → ∃ q : α × List Value, W.cells? 0 (ad.add (i * k)) k = some q.2 ∧ R q.1 q.2 := by
      intro i hi
      have h1 := helt i hi
      have hie : i < elems.length := by omega
      rw [List.getElem?_eq_getElem hie] at h1
      obtain ⟨cs', h2, h3⟩ := Option.bind_eq_some_iff.1 h1
      obtain ⟨a, ha⟩ := hel n' cs' _ hn' h3 (fun n hn => by
        refine hw n ?_
        simp only [DataW.weights, hu]
        exact List.mem_cons_of_mem _ (List.mem_append_left _ (weights_allD (List.mem_map_of_mem (List.getElem_mem hie)) n hn)))
      exact ⟨(a, cs'), h2, ha⟩
    obtain ⟨l, hll, hfy⟩ := pickD len hall
    refine ⟨l.map (·.1), _, rfl, ⟨some ad, cap, by simp [hll], by simpa [hll] using hlc, hcm, fun i hi => ?_⟩, by simpa [hll] using hlw⟩
    have hi' : i < l.length := by simpa using hi
    obtain ⟨_, q2, q3⟩ := World.cells?_some (hfy 0 (by omega)).1
    obtain ⟨_, g2, g3⟩ := World.cells?_some (hfy i hi').1
    have hs : ad = ⟨ad.block, ad.off, none⟩ := by
      have := q3 0 hk
      rw [Nat.zero_mul, show (ad.add 0).add 0 = ad.add 0 from by simp [Addr.add], List.getElem?_eq_getElem (by omega)] at this
      exact spot_noneD this
    generalize ad.block = b at hs
    generalize ad.off = off at hs
    subst hs
    have g4 : ∀ j u, (l[i]).2[j]? = some u → W.cell? ⟨b, off + i * k + j, none⟩ = some u := fun j u hj => by
      have hjl := (List.getElem?_eq_some_iff.1 hj).1
      have := g3 j (by omega)
      rw [add_plain, add_plain, hj] at this
      exact this
    refine ⟨b, off, (l[i]).2, rfl, trivial, ?_, g2, ?_, g4⟩
    · exact World.block_lt_of_cell? W _ (g4 0 _ (List.getElem?_eq_getElem (by omega)))
    · rw [List.getElem_map]
      exact (hfy i hi').2
theorem open_intsD {fuel : Nat} {cs : List Value} {x : DataW H × List MemPlace} (h : DataW.trod enc Try.prog W 0 (fun _ => true) true fuel 31 cs = some x) (hw : WtD 31 x.1) : ∃ (l : List Int) (v : Value), cs = [v] ∧ RdI W l v ∧ l.length ≤ 140737488351232 :=
  open_rowD (k := 1) (R := rIntD) Try.underlying31 (by kernel_rfl) (by decide) (by kernel_rfl) h hw (fun n' cs' y _ hy _ => by
    obtain ⟨k, rfl, _, _⟩ := DataW.trod_int Try.underlying3 hy
    exact ⟨k, rfl⟩)
theorem open_bytesD {fuel : Nat} {cs : List Value} {x : DataW H × List MemPlace} (h : DataW.trod enc Try.prog W 0 (fun _ => true) true fuel 30 cs = some x) (hw : WtD 30 x.1) : ∃ (bs : List Int) (v : Value), cs = [v] ∧ Rd W v bs ∧ (∀ b ∈ bs, 0 ≤ b ∧ b ≤ 255) ∧ bs.length ≤ 140737488351232 := by
  have hshape : cs = [.slice none 0 0] ∨ ∃ ad len cap, cs = [.slice (some ad) len cap] := by
    rcases DataW.trod_slice Try.underlying30 h with ⟨e, _⟩ | ⟨ad, len, cap, elems, rest, n', hn', e, _⟩
    · exact .inl e
    · exact .inr ⟨ad, len, cap, e⟩
  obtain ⟨l, v, rfl, h1, h2⟩ := open_rowD (k := 1) (R := fun (x : Int) cs => cs = [.int .u8 x] ∧ 0 ≤ x ∧ x ≤ 255) Try.underlying30 (by kernel_rfl) (by decide) (by kernel_rfl) h hw (fun n' cs' y _ hy _ => by
    obtain ⟨k, rfl, _, hk⟩ := DataW.trod_int Try.underlying5 hy
    have : 0 ≤ k ∧ k ≤ 255 := by simpa [Lit.wf, IntKind.min, IntKind.max, IntKind.signed, IntKind.bits] using hk
    exact ⟨k, rfl, this⟩)
  obtain ⟨h3, h4⟩ := RdK.bothD (R := fun (x : Int) cs => cs = [.int .u8 x]) (Q := fun x => 0 ≤ x ∧ x ≤ 255) h1
  obtain ⟨a, c, rfl, hl, hm, hc⟩ := h3
  refine ⟨l, _, rfl, ⟨a, c, rfl, hl, hm, fun e => ?_, fun y hy i hi => ?_⟩, h4, h2⟩
  · subst e
    rcases hshape with e | ⟨ad, len, cap, e⟩
    · simp only [List.cons.injEq, Value.slice.injEq, and_true, true_and] at e
      exact ⟨List.eq_nil_of_length_eq_zero e.1, e.2⟩
    · simp at e
  · obtain ⟨b, off, cs, e, _, _, _, e2, e3⟩ := hc i hi
    subst e2
    rw [e] at hy
    obtain rfl := Option.some.inj hy
    have := e3 0 _ rfl
    rw [Nat.mul_one, Nat.add_zero] at this
    rw [add_plain]
    simpa [List.getD, hi] using this
set_option maxRecDepth 100000 in
theorem open_op {fuel : Nat} {cs : List Value} {x : DataW H × List MemPlace} (h : DataW.trod enc Try.prog W 0 (fun _ => true) true fuel 33 cs = some x) (hw : WtD 33 x.1) : ∃ y : OpM, rOp W y cs ∧ WfO y := by
  obtain ⟨xs, n, _, rfl, hl, hlen, hf⟩ := DataW.trod_struct Try.underlying33 h
  have hc : Try.prog.cellsOf 33 = 6 := by kernel_rfl
  have cI : Try.prog.cellsOf 3 = 1 := by kernel_rfl
  have c5 : Try.prog.cellsOf 5 = 1 := by kernel_rfl
  have cb : Try.prog.cellsOf 30 = 1 := by kernel_rfl
  have cl : Try.prog.cellsOf 31 = 1 := by kernel_rfl
  rw [hc] at hl
  have f0 : DataW.trod enc Try.prog W 0 (fun _ => true) true n 3 ((cs.drop 0).take (Try.prog.cellsOf 3)) = xs[0]? := hf 0 _ rfl
  have f1 : DataW.trod enc Try.prog W 0 (fun _ => true) true n 3 ((cs.drop 1).take (Try.prog.cellsOf 3)) = xs[1]? := hf 1 _ rfl
  have f2 : DataW.trod enc Try.prog W 0 (fun _ => true) true n 3 ((cs.drop 2).take (Try.prog.cellsOf 3)) = xs[2]? := hf 2 _ rfl
  have f3 : DataW.trod enc Try.prog W 0 (fun _ => true) true n 5 ((cs.drop 3).take (Try.prog.cellsOf 5)) = xs[3]? := hf 3 _ rfl
  have f4 : DataW.trod enc Try.prog W 0 (fun _ => true) true n 30 ((cs.drop 4).take (Try.prog.cellsOf 30)) = xs[4]? := hf 4 _ rfl
  have f5 : DataW.trod enc Try.prog W 0 (fun _ => true) true n 31 ((cs.drop 5).take (Try.prog.cellsOf 31)) = xs[5]? := hf 5 _ rfl
  rw [cI] at f0 f1 f2
  rw [c5] at f3
  rw [cb] at f4
  rw [cl] at f5
  match cs, hl, xs, hlen with
  | [a, b, c, d, e, f], _, [y0, y1, y2, y3, y4, y5], _ =>
    have w4 := hw.field Try.underlying33 4 rfl rfl rfl
    have w5 := hw.field Try.underlying33 5 rfl rfl rfl
    simp only [List.drop_zero, List.take_succ_cons, List.take_zero, List.drop_succ_cons, List.getElem?_cons_zero, List.getElem?_cons_succ] at f0 f1 f2 f3 f4 f5
    obtain ⟨k0, e0, _, _⟩ := DataW.trod_int Try.underlying3 f0
    obtain ⟨k1, e1, _, u1⟩ := DataW.trod_int Try.underlying3 f1
    obtain ⟨k2, e2, _, u2⟩ := DataW.trod_int Try.underlying3 f2
    obtain ⟨k3, e3, _, u3⟩ := DataW.trod_int Try.underlying5 f3
    obtain ⟨bs, v4, e4, r4, b4, l4⟩ := open_bytesD f4 w4
    obtain ⟨ls, v5, e5, r5, l5⟩ := open_intsD f5 w5
    simp only [List.cons.injEq, and_true] at e0 e1 e2 e3 e4 e5
    subst e0 e1 e2 e3 e4 e5
    exact ⟨⟨k0, k1, k2, k3, bs, ls⟩, ⟨_, _, rfl, r4, r5⟩, ⟨u1, u2, by simpa [Lit.wf, IntKind.min, IntKind.max, IntKind.signed, IntKind.bits] using u3, b4, l4, l5⟩⟩
theorem open_opv {cs : Array Value} {d : DataW H} {p : List MemPlace} (h : DataW.Trod enc Try.prog W 0 (fun _ => true) true 33 (.agg cs) d p) (hw : WtD 33 d) : ∃ y : OpM, rOp W y cs.toList ∧ WfO y := by
  obtain ⟨fuel, hf⟩ := h
  exact open_op hf hw
end
end Go.Proofs.Ytbdblpdgfhmekaa
