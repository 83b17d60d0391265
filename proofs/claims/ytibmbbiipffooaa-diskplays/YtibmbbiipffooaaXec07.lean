import Derived.Test.YtibmbbiipffooaaXec06
import Derived.Deep.RegionHeldLaw
import Derived.Test.YtibmbbiipffooaaXec03
import Derived.Test.YtibmbbiipffooaaXec01
import Derived.ProofKit
import Derived.OpenShut
import Derived.ShutString
import Derived.ChangeOld
import Derived.SizedLaws
import Derived.Below
import Derived.WalkKit
import Derived.Test.YtibmbbiipffooaaXec02
import Derived.Deep.DeepCutAuto
import Derived.Test.YtibmbbiipffooaaRows
import Derived.Deep.Slices
import Derived.Test.YtibmbbiipffooaaXec04

/- The law's Do, kind by kind (written by wip/tools/genldo.py). -/
namespace Go.Proofs.Ytibmbbiipffooaa
open Go.RowKit Go.Lib Go.Maps
set_option linter.unusedSimpArgs false
set_option linter.unusedVariables false
attribute [local go_sem ↓] Go.wp_at_zero Go.wp_at_succ

theorem cell_dw {w : World} {p : Addr} {v : Value} (h : w.cell? p = some v) : w.drew.cell? p = some v := h
theorem T2.drew {w : World} {A : Nat → Prop} {X Y : Nat} {d e : Dk} (h : T2 w A X Y d e) : T2 w.drew A X Y d e := h.keep (Nat.le_refl _) (fun _ _ _ => rfl) (fun _ _ h => h)
/-- What the law's Do stands on: the disks, the call as it lies, the world w1 behind its copy in block N. -/
structure Dos (w0 w : World) (A : Nat → Prop) (X Y : Nat) (d : Dk) (x : OpM) (bv lv : Value) : Prop where
  t : T2 w A X Y d d
  ok : Ok d 1000 500000
  a1 : ∀ j, w.heap.size ≤ j → A j
  a0 : ∀ j, A j → w0.heap.size ≤ j
  k : Kf A w0 w
  bs : Rd w0 bv x.bs
  ls : RdI w0 x.ls lv
  wf : WfO x
  bl : x.bs.length ≤ 50000
  ll : x.ls.length ≤ 100
theorem T2.back {w : World} {A : Nat → Prop} {X Y N : Nat} {d e : Dk} (h : T2 w (fun j => A j ∧ j ≠ N) X Y d e) : T2 w A X Y d e := h.keep (Nat.le_refl _) (fun _ _ _ => rfl) (fun _ _ h => h.1)
theorem Kf.back {w w1 w' : World} {A : Nat → Prop} {N : Nat} (h : Kf (fun j => A j ∧ j ≠ N) w1 w') (ha : Below w.heap.size w w1) : Kf A w w' := (Kf.of ha (Nat.le_refl _)).trans (h.mono (fun j hj => hj.1))
section
variable {w0 w W : World} {A : Nat → Prop} {X Y N : Nat} {d d' e : Dk} {x : OpM} {bv lv : Value}
theorem t2_app (h : T2 W A X Y d e) (ok : Ok d 1000 500000) (hA : ∀ j, W.heap.size ≤ j → A j) (hx : (Lit.int .i64 x.a).wf = true) (hb : x.bs.length ≤ 50000) (hv : ∀ F w1, (∀ j, F j → A j) → Kf F W w1 → Rd w1 bv x.bs) :
    Calls Try.prog 16 #[.pointer (some ⟨X, 0, none⟩), .int .i64 x.a, bv] W fun r w' => r = .returned (.int .i64 (appD d x.a x.bs).2) ∧ T2 w' A X Y (appD d x.a x.bs).1 e ∧ Kf A W w' :=
  h.stepP (Q := fun r _ => r = .returned (.int .i64 (appD d x.a x.bs).2)) hA (fun F hp hF => dapp_any hp ok.fuse.2 ok.room hx (by have := ok.len; omega) (by have := ok.us; omega) (by omega) (fun w1 k => hv F w1 hF k))
theorem t2_appq (h : T2 W A X Y e d) (ok : Ok d 1000 500000) (hA : ∀ j, W.heap.size ≤ j → A j) (hb : x.bs.length ≤ 50000) (hv : ∀ F w1, (∀ j, F j → A j) → Kf F W w1 → Rd w1 bv x.bs) :
    Calls Try.prog 18 #[.pointer (some ⟨Y, 0, none⟩), .int .i64 x.a, bv] W fun r w' => r = .returned (.int .i64 (appD d x.a x.bs).2) ∧ T2 w' A X Y e (appD d x.a x.bs).1 ∧ Kf A W w' :=
  h.stepQ (Q := fun r _ => r = .returned (.int .i64 (appD d x.a x.bs).2)) hA (fun F hp hF => qapp_any hp ok.fuse.2 ok.room (by have := ok.len; omega) (by have := ok.us; omega) (by omega) (fun w1 k => hv F w1 hF k))
theorem t2_syn (h : T2 W A X Y d e) (ok : Ok d 1000 500000) (hA : ∀ j, W.heap.size ≤ j → A j) {n : Int} (hx : (Lit.int .i64 n).wf = true) :
    Calls Try.prog 19 #[.pointer (some ⟨X, 0, none⟩), .int .i64 n] W fun r w' => r = .returned (.int .i64 (opM d n (synF d n)).2) ∧ T2 w' A X Y (opM d n (synF d n)).1 e ∧ Kf A W w' :=
  h.stepP (Q := fun r _ => r = .returned (.int .i64 (opM d n (synF d n)).2)) hA (fun F hp hF => dsync_any hp ok.fuse.2 hx (by have := ok.len; omega))
theorem t2_synq (h : T2 W A X Y e d) (ok : Ok d 1000 500000) (hA : ∀ j, W.heap.size ≤ j → A j) {n : Int} :
    Calls Try.prog 20 #[.pointer (some ⟨Y, 0, none⟩), .int .i64 n] W fun r w' => r = .returned (.int .i64 (opM d n (synF d n)).2) ∧ T2 w' A X Y e (opM d n (synF d n)).1 ∧ Kf A W w' :=
  h.stepQ (Q := fun r _ => r = .returned (.int .i64 (opM d n (synF d n)).2)) hA (fun F hp hF => qsync_any hp ok.fuse.2)
theorem t2_drp (h : T2 W A X Y d e) (ok : Ok d 1000 500000) (hA : ∀ j, W.heap.size ≤ j → A j) {n : Int} (hx : (Lit.int .i64 n).wf = true) :
    Calls Try.prog 21 #[.pointer (some ⟨X, 0, none⟩), .int .i64 n] W fun r w' => r = .returned (.int .i64 (opM d n (drpF d n)).2) ∧ T2 w' A X Y (opM d n (drpF d n)).1 e ∧ Kf A W w' :=
  h.stepP (Q := fun r _ => r = .returned (.int .i64 (opM d n (drpF d n)).2)) hA (fun F hp hF => ddrop_any hp ok.fuse.2 hx (by have := ok.us; omega))
theorem t2_drpq (h : T2 W A X Y e d) (ok : Ok d 1000 500000) (hA : ∀ j, W.heap.size ≤ j → A j) {n : Int} :
    Calls Try.prog 22 #[.pointer (some ⟨Y, 0, none⟩), .int .i64 n] W fun r w' => r = .returned (.int .i64 (opM d n (drpF d n)).2) ∧ T2 w' A X Y e (opM d n (drpF d n)).1 ∧ Kf A W w' :=
  h.stepQ (Q := fun r _ => r = .returned (.int .i64 (opM d n (drpF d n)).2)) hA (fun F hp hF => qdrop_any hp ok.fuse.2 (by have := ok.len; omega))
theorem t2_cr (h : T2 W A X Y d e) (ok : Ok d 1000 500000) (hA : ∀ j, W.heap.size ≤ j → A j) {ls : List Int} (hb : ls.length ≤ 100) (hv : ∀ F w1, (∀ j, F j → A j) → Kf F W w1 → RdI w1 ls lv) :
    Calls Try.prog 14 #[.pointer (some ⟨X, 0, none⟩), lv] W fun r w' => r = .returned (.tuple #[]) ∧ T2 w' A X Y (crD d ls) e ∧ Kf A W w' :=
  h.stepP (Q := fun r _ => r = .returned (.tuple #[])) hA (fun F hp hF => dcrash_any hp ok.s (by have := ok.us; omega) (by have := ok.len; omega) (by omega) (fun w1 k => hv F w1 hF k))
theorem t2_crq (h : T2 W A X Y e d) (ok : Ok d 1000 500000) (hA : ∀ j, W.heap.size ≤ j → A j) {ls : List Int} (hb : ls.length ≤ 100) (hv : ∀ F w1, (∀ j, F j → A j) → Kf F W w1 → RdI w1 ls lv) :
    Calls Try.prog 26 #[.pointer (some ⟨Y, 0, none⟩), lv] W fun r w' => r = .returned (.tuple #[]) ∧ T2 w' A X Y e (crD d ls) ∧ Kf A W w' :=
  h.stepQ (Q := fun r _ => r = .returned (.tuple #[])) hA (fun F hp hF => qcrash_any hp (fun x hx => (ok.s x hx).1) (by have := ok.us; omega) (by have := ok.len; omega) (by omega) (fun w1 k => hv F w1 hF k))
theorem t2_spo (h : T2 W A X Y d e) (hA : ∀ j, W.heap.size ≤ j → A j) {n a b : Int} (hx : (Lit.int .i64 n).wf = true) :
    Calls Try.prog 27 #[.pointer (some ⟨X, 0, none⟩), .int .i64 n, .int .i64 a, .int .u8 b] W fun r w' => r = .returned (.bool (spoD d n a b).2) ∧ T2 w' A X Y (spoD d n a b).1 e ∧ Kf A W w' :=
  h.stepP (Q := fun r _ => r = .returned (.bool (spoD d n a b).2)) hA (fun F hp hF => dspoil_any hp hx)
theorem t2_spoq (h : T2 W A X Y e d) (ok : Ok d 1000 500000) (hA : ∀ j, W.heap.size ≤ j → A j) {n a b : Int} :
    Calls Try.prog 28 #[.pointer (some ⟨Y, 0, none⟩), .int .i64 n, .int .i64 a, .int .u8 b] W fun r w' => r = .returned (.bool (spoD d n a b).2) ∧ T2 w' A X Y e (spoD d n a b).1 ∧ Kf A W w' :=
  h.stepQ (Q := fun r _ => r = .returned (.bool (spoD d n a b).2)) hA (fun F hp hF => qspoil_any hp (by have := ok.us; omega))
end
set_option maxRecDepth 100000 in
set_option maxHeartbeats 4000000 in
theorem ldo_1 {w0 w : World} {A : Nat → Prop} {X Y : Nat} {d : Dk} {x : OpM} {bv lv : Value} (h : Dos w0 w A X Y d x bv lv) (hK : x.kind = 1) :
    Calls Try.prog 9 #[.pointer (some ⟨X, 0, none⟩), .pointer (some ⟨Y, 0, none⟩), .agg #[.int .i64 x.kind, .int .i64 x.a, .int .i64 x.b, .int .u8 x.y, bv, lv]] w fun e w' => e = .returned (.bool true) ∧ T2 w' A X Y (appD d x.a x.bs).1 (appD d x.a x.bs).1 ∧ Kf A w w' := by
  obtain ⟨K, a, b, y, bs, ls⟩ := x
  obtain ⟨ht, hok, a1, a0, hk0, hbs, hls, hwf, hbl, hll⟩ := h
  simp only at hK hbs hls hbl hll ⊢
  subst hK
  have hax := hwf.a
  simp only at hax
  obtain ⟨ba, bc, rfl, _⟩ := id hbs
  obtain ⟨la, lc, rfl, _⟩ := hls.form
  obtain ⟨nb, hnb⟩ : ∃ k, bs.length = k := ⟨_, rfl⟩
  obtain ⟨nl, hnl⟩ : ∃ k, ls.length = k := ⟨_, rfl⟩
  have hal : Below w.heap.size w (w.alloc (.cells #[.int .i64 1, .int .i64 a, .int .i64 b, .int .u8 y, .slice ba nb bc, .slice la nl lc] 33)) := (Below.refl _ _).alloc (Nat.le_refl _) _
  have hb : Bn (w.alloc (.cells #[.int .i64 1, .int .i64 a, .int .i64 b, .int .u8 y, .slice ba nb bc, .slice la nl lc] 33)) w.heap.size [.int .i64 1, .int .i64 a, .int .i64 b, .int .u8 y, .slice ba nb bc, .slice la nl lc] := Bn.new w [.int .i64 1, .int .i64 a, .int .i64 b, .int .u8 y, .slice ba nb bc, .slice la nl lc] _ _ rfl
  have hsz : (w.alloc (.cells #[.int .i64 1, .int .i64 a, .int .i64 b, .int .u8 y, .slice ba nb bc, .slice la nl lc] 33)).heap.size = w.heap.size + 1 := by simp
  rw [hnb] at hbs
  rw [hnl] at hls
  rw [hnb, hnl]
  have ht1 := (ht.but (Nat.le_refl w.heap.size)).on hal
  have hNA : ¬ (fun j => A j ∧ j ≠ w.heap.size) w.heap.size := fun h => h.2 rfl
  have hk1 : Kf A w0 (w.alloc (.cells #[.int .i64 1, .int .i64 a, .int .i64 b, .int .u8 y, .slice ba nb bc, .slice la nl lc] 33)) := hk0.alloc _
  obtain ⟨w1, hw1⟩ : ∃ k, w.alloc (.cells #[.int .i64 1, .int .i64 a, .int .i64 b, .int .u8 y, .slice ba nb bc, .slice la nl lc] 33) = k := ⟨_, rfl⟩
  rw [hw1] at hal hb hsz ht1 hk1
  have HW1 := hideD hw1
  clear hw1
  have hA' : ∀ W, Kf (fun j => A j ∧ j ≠ w.heap.size) w1 W → ∀ j, W.heap.size ≤ j → (fun j => A j ∧ j ≠ w.heap.size) j := fun W k j hj => by
    have := k.size
    exact ⟨a1 j (by omega), by omega⟩
  have hv : ∀ W, Kf (fun j => A j ∧ j ≠ w.heap.size) w1 W → ∀ F w2, (∀ j, F j → (fun j => A j ∧ j ≠ w.heap.size) j) → Kf F W w2 → Rd w2 (.slice ba nb bc) bs := fun W k F w2 hF k2 => rd_kf hbs (hk1.trans (k.mono (fun j hj => hj.1))) a0 (fun j hj => (hF j hj).1) k2
  have hP : ∀ W, T2 W (fun j => A j ∧ j ≠ w.heap.size) X Y d d → Kf (fun j => A j ∧ j ≠ w.heap.size) w1 W → Calls Try.prog 16 #[.pointer (some ⟨X, 0, none⟩), .int .i64 a, .slice ba nb bc] W fun r w' => r = .returned (.int .i64 (appD d a bs).2) ∧ T2 w' (fun j => A j ∧ j ≠ w.heap.size) X Y (appD d a bs).1 d ∧ Kf (fun j => A j ∧ j ≠ w.heap.size) w1 w' := fun W t k => (t2_app (x := ⟨1, a, b, y, bs, ls⟩) t hok (hA' W k) hax hbl (hv W k)).mono (fun r w' hh => ⟨hh.1, hh.2.1, k.trans hh.2.2⟩)
  have hQ : ∀ W, T2 W (fun j => A j ∧ j ≠ w.heap.size) X Y (appD d a bs).1 d → Kf (fun j => A j ∧ j ≠ w.heap.size) w1 W → Calls Try.prog 18 #[.pointer (some ⟨Y, 0, none⟩), .int .i64 a, .slice ba nb bc] W fun r w' => r = .returned (.int .i64 (appD d a bs).2) ∧ T2 w' (fun j => A j ∧ j ≠ w.heap.size) X Y (appD d a bs).1 (appD d a bs).1 ∧ Kf (fun j => A j ∧ j ≠ w.heap.size) w1 w' := fun W t k => (t2_appq (x := ⟨1, a, b, y, bs, ls⟩) t hok (hA' W k) hbl (hv W k)).mono (fun r w' hh => ⟨hh.1, hh.2.1, k.trans hh.2.2⟩)
  obtain ⟨d1, hd1⟩ : ∃ k, (appD d a bs).1 = k := ⟨_, rfl⟩
  rw [hd1] at hP hQ ⊢
  obtain ⟨r1, hr1⟩ : ∃ k, (appD d a bs).2 = k := ⟨_, rfl⟩
  rw [hr1] at hP hQ
  clear hr1
  clear hd1 hv hA' hok hk1 hk0 hbs hls hwf hax ht
  have hb2 := hb
  obtain ⟨y1, _⟩ := hb2 1 _ rfl; obtain ⟨y4, _⟩ := hb2 4 _ rfl
  have hk : Kf (fun j => A j ∧ j ≠ w.heap.size) w1 w1 := Kf.refl _ _
  obtain ⟨y00, _⟩ := hb 0 _ rfl
  go_enter Try.func9, Try.ntmps9
  go_upto_region 1 with fail
  rw [HW1.out]
  clear HW1
  go_upto_region 3 with fail
  clear y00
  go_region_held_law (fun w' => w'.cell? ⟨w.heap.size, 1, none⟩ = some (.int .i64 a) ∧ w'.cell? ⟨w.heap.size, 4, none⟩ = some (.slice ba nb bc))
    ((refine ⟨?_, ?_⟩ <;> (repeat (first | (with_reducible exact y1) | (with_reducible exact y4) | (with_reducible refine cell_dw ?_))) <;> done))
    (first
      | (go_at_call 16; (first | (with_reducible refine (hP _ ht1 hk).mono ?_) | (with_reducible refine (hP _ ht1.drew hk.drew).mono ?_)); rintro e w2 ⟨rfl, ht2, hk⟩; have hb2 := hb.kA hk hNA; obtain ⟨y1, _⟩ := hb2 1 _ rfl; obtain ⟨y4, _⟩ := hb2 4 _ rfl)
      | (go_at_call 18; (first | (with_reducible refine (hQ _ ht2 hk).mono ?_) | (with_reducible refine (hQ _ ht2.drew hk.drew).mono ?_)); rintro e w3 ⟨rfl, ht3, hk⟩; have hb2 := hb.kA hk hNA; obtain ⟨y1, _⟩ := hb2 1 _ rfl; obtain ⟨y4, _⟩ := hb2 4 _ rfl)
      | fail)
  all_goals (
    go_wp2
    go_ret
    exact ⟨rfl, ht3.back, Kf.back hk hal⟩)
set_option maxRecDepth 100000 in
set_option maxHeartbeats 4000000 in
theorem ldo_2 {w0 w : World} {A : Nat → Prop} {X Y : Nat} {d : Dk} {x : OpM} {bv lv : Value} (h : Dos w0 w A X Y d x bv lv) (hK : x.kind = 2) :
    Calls Try.prog 9 #[.pointer (some ⟨X, 0, none⟩), .pointer (some ⟨Y, 0, none⟩), .agg #[.int .i64 x.kind, .int .i64 x.a, .int .i64 x.b, .int .u8 x.y, bv, lv]] w fun e w' => e = .returned (.bool true) ∧ T2 w' A X Y (opM d x.a (synF d x.a)).1 (opM d x.a (synF d x.a)).1 ∧ Kf A w w' := by
  obtain ⟨K, a, b, y, bs, ls⟩ := x
  obtain ⟨ht, hok, a1, a0, hk0, hbs, hls, hwf, hbl, hll⟩ := h
  simp only at hK hbs hls hbl hll ⊢
  subst hK
  have hax := hwf.a
  simp only at hax
  obtain ⟨ba, bc, rfl, _⟩ := id hbs
  obtain ⟨la, lc, rfl, _⟩ := hls.form
  obtain ⟨nb, hnb⟩ : ∃ k, bs.length = k := ⟨_, rfl⟩
  obtain ⟨nl, hnl⟩ : ∃ k, ls.length = k := ⟨_, rfl⟩
  have hal : Below w.heap.size w (w.alloc (.cells #[.int .i64 2, .int .i64 a, .int .i64 b, .int .u8 y, .slice ba nb bc, .slice la nl lc] 33)) := (Below.refl _ _).alloc (Nat.le_refl _) _
  have hb : Bn (w.alloc (.cells #[.int .i64 2, .int .i64 a, .int .i64 b, .int .u8 y, .slice ba nb bc, .slice la nl lc] 33)) w.heap.size [.int .i64 2, .int .i64 a, .int .i64 b, .int .u8 y, .slice ba nb bc, .slice la nl lc] := Bn.new w [.int .i64 2, .int .i64 a, .int .i64 b, .int .u8 y, .slice ba nb bc, .slice la nl lc] _ _ rfl
  have hsz : (w.alloc (.cells #[.int .i64 2, .int .i64 a, .int .i64 b, .int .u8 y, .slice ba nb bc, .slice la nl lc] 33)).heap.size = w.heap.size + 1 := by simp
  rw [hnb] at hbs
  rw [hnl] at hls
  rw [hnb, hnl]
  have ht1 := (ht.but (Nat.le_refl w.heap.size)).on hal
  have hNA : ¬ (fun j => A j ∧ j ≠ w.heap.size) w.heap.size := fun h => h.2 rfl
  have hk1 : Kf A w0 (w.alloc (.cells #[.int .i64 2, .int .i64 a, .int .i64 b, .int .u8 y, .slice ba nb bc, .slice la nl lc] 33)) := hk0.alloc _
  obtain ⟨w1, hw1⟩ : ∃ k, w.alloc (.cells #[.int .i64 2, .int .i64 a, .int .i64 b, .int .u8 y, .slice ba nb bc, .slice la nl lc] 33) = k := ⟨_, rfl⟩
  rw [hw1] at hal hb hsz ht1 hk1
  have HW1 := hideD hw1
  clear hw1
  have hA' : ∀ W, Kf (fun j => A j ∧ j ≠ w.heap.size) w1 W → ∀ j, W.heap.size ≤ j → (fun j => A j ∧ j ≠ w.heap.size) j := fun W k j hj => by
    have := k.size
    exact ⟨a1 j (by omega), by omega⟩
  have hP : ∀ W, T2 W (fun j => A j ∧ j ≠ w.heap.size) X Y d d → Kf (fun j => A j ∧ j ≠ w.heap.size) w1 W → Calls Try.prog 19 #[.pointer (some ⟨X, 0, none⟩), .int .i64 a] W fun r w' => r = .returned (.int .i64 (opM d a (synF d a)).2) ∧ T2 w' (fun j => A j ∧ j ≠ w.heap.size) X Y (opM d a (synF d a)).1 d ∧ Kf (fun j => A j ∧ j ≠ w.heap.size) w1 w' := fun W t k => (t2_syn t hok (hA' W k) hax).mono (fun r w' hh => ⟨hh.1, hh.2.1, k.trans hh.2.2⟩)
  have hQ : ∀ W, T2 W (fun j => A j ∧ j ≠ w.heap.size) X Y (opM d a (synF d a)).1 d → Kf (fun j => A j ∧ j ≠ w.heap.size) w1 W → Calls Try.prog 20 #[.pointer (some ⟨Y, 0, none⟩), .int .i64 a] W fun r w' => r = .returned (.int .i64 (opM d a (synF d a)).2) ∧ T2 w' (fun j => A j ∧ j ≠ w.heap.size) X Y (opM d a (synF d a)).1 (opM d a (synF d a)).1 ∧ Kf (fun j => A j ∧ j ≠ w.heap.size) w1 w' := fun W t k => (t2_synq t hok (hA' W k)).mono (fun r w' hh => ⟨hh.1, hh.2.1, k.trans hh.2.2⟩)
  obtain ⟨d1, hd1⟩ : ∃ k, (opM d a (synF d a)).1 = k := ⟨_, rfl⟩
  rw [hd1] at hP hQ ⊢
  obtain ⟨r1, hr1⟩ : ∃ k, (opM d a (synF d a)).2 = k := ⟨_, rfl⟩
  rw [hr1] at hP hQ
  clear hr1
  clear hd1 hA' hok hk1 hk0 hbs hls hwf hax ht
  have hb2 := hb
  obtain ⟨y1, _⟩ := hb2 1 _ rfl
  have hk : Kf (fun j => A j ∧ j ≠ w.heap.size) w1 w1 := Kf.refl _ _
  obtain ⟨y00, _⟩ := hb 0 _ rfl
  go_enter Try.func9, Try.ntmps9
  go_upto_region 1 with fail
  rw [HW1.out]
  clear HW1
  go_upto_region 5 with fail
  clear y00
  go_region_held_law (fun w' => w'.cell? ⟨w.heap.size, 1, none⟩ = some (.int .i64 a))
    ((skip <;> (repeat (first | (with_reducible exact y1) | (with_reducible refine cell_dw ?_))) <;> done))
    (first
      | (go_at_call 19; (first | (with_reducible refine (hP _ ht1 hk).mono ?_) | (with_reducible refine (hP _ ht1.drew hk.drew).mono ?_)); rintro e w2 ⟨rfl, ht2, hk⟩; have hb2 := hb.kA hk hNA; obtain ⟨y1, _⟩ := hb2 1 _ rfl)
      | (go_at_call 20; (first | (with_reducible refine (hQ _ ht2 hk).mono ?_) | (with_reducible refine (hQ _ ht2.drew hk.drew).mono ?_)); rintro e w3 ⟨rfl, ht3, hk⟩; have hb2 := hb.kA hk hNA; obtain ⟨y1, _⟩ := hb2 1 _ rfl)
      | fail)
  all_goals (
    go_wp2
    go_ret
    exact ⟨rfl, ht3.back, Kf.back hk hal⟩)
set_option maxRecDepth 100000 in
set_option maxHeartbeats 4000000 in
theorem ldo_3 {w0 w : World} {A : Nat → Prop} {X Y : Nat} {d : Dk} {x : OpM} {bv lv : Value} (h : Dos w0 w A X Y d x bv lv) (hK : x.kind = 3) :
    Calls Try.prog 9 #[.pointer (some ⟨X, 0, none⟩), .pointer (some ⟨Y, 0, none⟩), .agg #[.int .i64 x.kind, .int .i64 x.a, .int .i64 x.b, .int .u8 x.y, bv, lv]] w fun e w' => e = .returned (.bool true) ∧ T2 w' A X Y (opM d x.a (drpF d x.a)).1 (opM d x.a (drpF d x.a)).1 ∧ Kf A w w' := by
  obtain ⟨K, a, b, y, bs, ls⟩ := x
  obtain ⟨ht, hok, a1, a0, hk0, hbs, hls, hwf, hbl, hll⟩ := h
  simp only at hK hbs hls hbl hll ⊢
  subst hK
  have hax := hwf.a
  simp only at hax
  obtain ⟨ba, bc, rfl, _⟩ := id hbs
  obtain ⟨la, lc, rfl, _⟩ := hls.form
  obtain ⟨nb, hnb⟩ : ∃ k, bs.length = k := ⟨_, rfl⟩
  obtain ⟨nl, hnl⟩ : ∃ k, ls.length = k := ⟨_, rfl⟩
  have hal : Below w.heap.size w (w.alloc (.cells #[.int .i64 3, .int .i64 a, .int .i64 b, .int .u8 y, .slice ba nb bc, .slice la nl lc] 33)) := (Below.refl _ _).alloc (Nat.le_refl _) _
  have hb : Bn (w.alloc (.cells #[.int .i64 3, .int .i64 a, .int .i64 b, .int .u8 y, .slice ba nb bc, .slice la nl lc] 33)) w.heap.size [.int .i64 3, .int .i64 a, .int .i64 b, .int .u8 y, .slice ba nb bc, .slice la nl lc] := Bn.new w [.int .i64 3, .int .i64 a, .int .i64 b, .int .u8 y, .slice ba nb bc, .slice la nl lc] _ _ rfl
  have hsz : (w.alloc (.cells #[.int .i64 3, .int .i64 a, .int .i64 b, .int .u8 y, .slice ba nb bc, .slice la nl lc] 33)).heap.size = w.heap.size + 1 := by simp
  rw [hnb] at hbs
  rw [hnl] at hls
  rw [hnb, hnl]
  have ht1 := (ht.but (Nat.le_refl w.heap.size)).on hal
  have hNA : ¬ (fun j => A j ∧ j ≠ w.heap.size) w.heap.size := fun h => h.2 rfl
  have hk1 : Kf A w0 (w.alloc (.cells #[.int .i64 3, .int .i64 a, .int .i64 b, .int .u8 y, .slice ba nb bc, .slice la nl lc] 33)) := hk0.alloc _
  obtain ⟨w1, hw1⟩ : ∃ k, w.alloc (.cells #[.int .i64 3, .int .i64 a, .int .i64 b, .int .u8 y, .slice ba nb bc, .slice la nl lc] 33) = k := ⟨_, rfl⟩
  rw [hw1] at hal hb hsz ht1 hk1
  have HW1 := hideD hw1
  clear hw1
  have hA' : ∀ W, Kf (fun j => A j ∧ j ≠ w.heap.size) w1 W → ∀ j, W.heap.size ≤ j → (fun j => A j ∧ j ≠ w.heap.size) j := fun W k j hj => by
    have := k.size
    exact ⟨a1 j (by omega), by omega⟩
  have hP : ∀ W, T2 W (fun j => A j ∧ j ≠ w.heap.size) X Y d d → Kf (fun j => A j ∧ j ≠ w.heap.size) w1 W → Calls Try.prog 21 #[.pointer (some ⟨X, 0, none⟩), .int .i64 a] W fun r w' => r = .returned (.int .i64 (opM d a (drpF d a)).2) ∧ T2 w' (fun j => A j ∧ j ≠ w.heap.size) X Y (opM d a (drpF d a)).1 d ∧ Kf (fun j => A j ∧ j ≠ w.heap.size) w1 w' := fun W t k => (t2_drp t hok (hA' W k) hax).mono (fun r w' hh => ⟨hh.1, hh.2.1, k.trans hh.2.2⟩)
  have hQ : ∀ W, T2 W (fun j => A j ∧ j ≠ w.heap.size) X Y (opM d a (drpF d a)).1 d → Kf (fun j => A j ∧ j ≠ w.heap.size) w1 W → Calls Try.prog 22 #[.pointer (some ⟨Y, 0, none⟩), .int .i64 a] W fun r w' => r = .returned (.int .i64 (opM d a (drpF d a)).2) ∧ T2 w' (fun j => A j ∧ j ≠ w.heap.size) X Y (opM d a (drpF d a)).1 (opM d a (drpF d a)).1 ∧ Kf (fun j => A j ∧ j ≠ w.heap.size) w1 w' := fun W t k => (t2_drpq t hok (hA' W k)).mono (fun r w' hh => ⟨hh.1, hh.2.1, k.trans hh.2.2⟩)
  obtain ⟨d1, hd1⟩ : ∃ k, (opM d a (drpF d a)).1 = k := ⟨_, rfl⟩
  rw [hd1] at hP hQ ⊢
  obtain ⟨r1, hr1⟩ : ∃ k, (opM d a (drpF d a)).2 = k := ⟨_, rfl⟩
  rw [hr1] at hP hQ
  clear hr1
  clear hd1 hA' hok hk1 hk0 hbs hls hwf hax ht
  have hb2 := hb
  obtain ⟨y1, _⟩ := hb2 1 _ rfl
  have hk : Kf (fun j => A j ∧ j ≠ w.heap.size) w1 w1 := Kf.refl _ _
  obtain ⟨y00, _⟩ := hb 0 _ rfl
  go_enter Try.func9, Try.ntmps9
  go_upto_region 1 with fail
  rw [HW1.out]
  clear HW1
  go_upto_region 7 with fail
  clear y00
  go_region_held_law (fun w' => w'.cell? ⟨w.heap.size, 1, none⟩ = some (.int .i64 a))
    ((skip <;> (repeat (first | (with_reducible exact y1) | (with_reducible refine cell_dw ?_))) <;> done))
    (first
      | (go_at_call 21; (first | (with_reducible refine (hP _ ht1 hk).mono ?_) | (with_reducible refine (hP _ ht1.drew hk.drew).mono ?_)); rintro e w2 ⟨rfl, ht2, hk⟩; have hb2 := hb.kA hk hNA; obtain ⟨y1, _⟩ := hb2 1 _ rfl)
      | (go_at_call 22; (first | (with_reducible refine (hQ _ ht2 hk).mono ?_) | (with_reducible refine (hQ _ ht2.drew hk.drew).mono ?_)); rintro e w3 ⟨rfl, ht3, hk⟩; have hb2 := hb.kA hk hNA; obtain ⟨y1, _⟩ := hb2 1 _ rfl)
      | fail)
  all_goals (
    go_wp2
    go_ret
    exact ⟨rfl, ht3.back, Kf.back hk hal⟩)
set_option maxRecDepth 100000 in
set_option maxHeartbeats 4000000 in
theorem ldo_7 {w0 w : World} {A : Nat → Prop} {X Y : Nat} {d : Dk} {x : OpM} {bv lv : Value} (h : Dos w0 w A X Y d x bv lv) (hK : x.kind = 7) :
    Calls Try.prog 9 #[.pointer (some ⟨X, 0, none⟩), .pointer (some ⟨Y, 0, none⟩), .agg #[.int .i64 x.kind, .int .i64 x.a, .int .i64 x.b, .int .u8 x.y, bv, lv]] w fun e w' => e = .returned (.bool true) ∧ T2 w' A X Y (crD d x.ls) (crD d x.ls) ∧ Kf A w w' := by
  obtain ⟨K, a, b, y, bs, ls⟩ := x
  obtain ⟨ht, hok, a1, a0, hk0, hbs, hls, hwf, hbl, hll⟩ := h
  simp only at hK hbs hls hbl hll ⊢
  subst hK
  have hax := hwf.a
  simp only at hax
  obtain ⟨ba, bc, rfl, _⟩ := id hbs
  obtain ⟨la, lc, rfl, _⟩ := hls.form
  obtain ⟨nb, hnb⟩ : ∃ k, bs.length = k := ⟨_, rfl⟩
  obtain ⟨nl, hnl⟩ : ∃ k, ls.length = k := ⟨_, rfl⟩
  have hal : Below w.heap.size w (w.alloc (.cells #[.int .i64 7, .int .i64 a, .int .i64 b, .int .u8 y, .slice ba nb bc, .slice la nl lc] 33)) := (Below.refl _ _).alloc (Nat.le_refl _) _
  have hb : Bn (w.alloc (.cells #[.int .i64 7, .int .i64 a, .int .i64 b, .int .u8 y, .slice ba nb bc, .slice la nl lc] 33)) w.heap.size [.int .i64 7, .int .i64 a, .int .i64 b, .int .u8 y, .slice ba nb bc, .slice la nl lc] := Bn.new w [.int .i64 7, .int .i64 a, .int .i64 b, .int .u8 y, .slice ba nb bc, .slice la nl lc] _ _ rfl
  have hsz : (w.alloc (.cells #[.int .i64 7, .int .i64 a, .int .i64 b, .int .u8 y, .slice ba nb bc, .slice la nl lc] 33)).heap.size = w.heap.size + 1 := by simp
  rw [hnb] at hbs
  rw [hnl] at hls
  rw [hnb, hnl]
  have ht1 := (ht.but (Nat.le_refl w.heap.size)).on hal
  have hNA : ¬ (fun j => A j ∧ j ≠ w.heap.size) w.heap.size := fun h => h.2 rfl
  have hk1 : Kf A w0 (w.alloc (.cells #[.int .i64 7, .int .i64 a, .int .i64 b, .int .u8 y, .slice ba nb bc, .slice la nl lc] 33)) := hk0.alloc _
  obtain ⟨w1, hw1⟩ : ∃ k, w.alloc (.cells #[.int .i64 7, .int .i64 a, .int .i64 b, .int .u8 y, .slice ba nb bc, .slice la nl lc] 33) = k := ⟨_, rfl⟩
  rw [hw1] at hal hb hsz ht1 hk1
  have HW1 := hideD hw1
  clear hw1
  have hA' : ∀ W, Kf (fun j => A j ∧ j ≠ w.heap.size) w1 W → ∀ j, W.heap.size ≤ j → (fun j => A j ∧ j ≠ w.heap.size) j := fun W k j hj => by
    have := k.size
    exact ⟨a1 j (by omega), by omega⟩
  have hv : ∀ W, Kf (fun j => A j ∧ j ≠ w.heap.size) w1 W → ∀ F w2, (∀ j, F j → (fun j => A j ∧ j ≠ w.heap.size) j) → Kf F W w2 → RdI w2 ls (.slice la nl lc) := fun W k F w2 hF k2 => rdI_kf hls (hk1.trans (k.mono (fun j hj => hj.1))) a0 (fun j hj => (hF j hj).1) k2
  have hP : ∀ W, T2 W (fun j => A j ∧ j ≠ w.heap.size) X Y d d → Kf (fun j => A j ∧ j ≠ w.heap.size) w1 W → Calls Try.prog 14 #[.pointer (some ⟨X, 0, none⟩), .slice la nl lc] W fun r w' => r = .returned (.tuple #[]) ∧ T2 w' (fun j => A j ∧ j ≠ w.heap.size) X Y (crD d ls) d ∧ Kf (fun j => A j ∧ j ≠ w.heap.size) w1 w' := fun W t k => (t2_cr t hok (hA' W k) hll (hv W k)).mono (fun r w' hh => ⟨hh.1, hh.2.1, k.trans hh.2.2⟩)
  have hQ : ∀ W, T2 W (fun j => A j ∧ j ≠ w.heap.size) X Y (crD d ls) d → Kf (fun j => A j ∧ j ≠ w.heap.size) w1 W → Calls Try.prog 26 #[.pointer (some ⟨Y, 0, none⟩), .slice la nl lc] W fun r w' => r = .returned (.tuple #[]) ∧ T2 w' (fun j => A j ∧ j ≠ w.heap.size) X Y (crD d ls) (crD d ls) ∧ Kf (fun j => A j ∧ j ≠ w.heap.size) w1 w' := fun W t k => (t2_crq t hok (hA' W k) hll (hv W k)).mono (fun r w' hh => ⟨hh.1, hh.2.1, k.trans hh.2.2⟩)
  obtain ⟨d1, hd1⟩ : ∃ k, crD d ls = k := ⟨_, rfl⟩
  rw [hd1] at hP hQ ⊢
  clear hd1 hv hA' hok hk1 hk0 hbs hls hwf hax ht
  obtain ⟨y0, _⟩ := hb 0 _ rfl
  obtain ⟨y5, _⟩ := hb 5 _ rfl
  have hk : Kf (fun j => A j ∧ j ≠ w.heap.size) w1 w1 := Kf.refl _ _
  go_enter Try.func9, Try.ntmps9
  go_upto_region 1 with fail
  rw [HW1.out]
  clear HW1
  go_wp2_with (first
    | (go_at_call 14; refine (hP _ ht1 hk).mono ?_; rintro e w2 ⟨rfl, ht2, hk⟩; have hb2 := hb.kA hk hNA; obtain ⟨y5, _⟩ := hb2 5 _ rfl)
    | (go_at_call 26; refine (hQ _ ht2 hk).mono ?_; rintro e w3 ⟨rfl, ht3, hk⟩)
    | fail)
  go_ret
  exact ⟨rfl, ht3.back, Kf.back hk hal⟩
set_option maxRecDepth 100000 in
set_option maxHeartbeats 4000000 in
theorem ldo_8 {w0 w : World} {A : Nat → Prop} {X Y : Nat} {d : Dk} {x : OpM} {bv lv : Value} (h : Dos w0 w A X Y d x bv lv) (hK : x.kind = 8) :
    Calls Try.prog 9 #[.pointer (some ⟨X, 0, none⟩), .pointer (some ⟨Y, 0, none⟩), .agg #[.int .i64 x.kind, .int .i64 x.a, .int .i64 x.b, .int .u8 x.y, bv, lv]] w fun e w' => e = .returned (.bool true) ∧ T2 w' A X Y (spoD d x.a x.b x.y).1 (spoD d x.a x.b x.y).1 ∧ Kf A w w' := by
  obtain ⟨K, a, b, y, bs, ls⟩ := x
  obtain ⟨ht, hok, a1, a0, hk0, hbs, hls, hwf, hbl, hll⟩ := h
  simp only at hK hbs hls hbl hll ⊢
  subst hK
  have hax := hwf.a
  simp only at hax
  obtain ⟨ba, bc, rfl, _⟩ := id hbs
  obtain ⟨la, lc, rfl, _⟩ := hls.form
  obtain ⟨nb, hnb⟩ : ∃ k, bs.length = k := ⟨_, rfl⟩
  obtain ⟨nl, hnl⟩ : ∃ k, ls.length = k := ⟨_, rfl⟩
  have hal : Below w.heap.size w (w.alloc (.cells #[.int .i64 8, .int .i64 a, .int .i64 b, .int .u8 y, .slice ba nb bc, .slice la nl lc] 33)) := (Below.refl _ _).alloc (Nat.le_refl _) _
  have hb : Bn (w.alloc (.cells #[.int .i64 8, .int .i64 a, .int .i64 b, .int .u8 y, .slice ba nb bc, .slice la nl lc] 33)) w.heap.size [.int .i64 8, .int .i64 a, .int .i64 b, .int .u8 y, .slice ba nb bc, .slice la nl lc] := Bn.new w [.int .i64 8, .int .i64 a, .int .i64 b, .int .u8 y, .slice ba nb bc, .slice la nl lc] _ _ rfl
  have hsz : (w.alloc (.cells #[.int .i64 8, .int .i64 a, .int .i64 b, .int .u8 y, .slice ba nb bc, .slice la nl lc] 33)).heap.size = w.heap.size + 1 := by simp
  rw [hnb] at hbs
  rw [hnl] at hls
  rw [hnb, hnl]
  have ht1 := (ht.but (Nat.le_refl w.heap.size)).on hal
  have hNA : ¬ (fun j => A j ∧ j ≠ w.heap.size) w.heap.size := fun h => h.2 rfl
  have hk1 : Kf A w0 (w.alloc (.cells #[.int .i64 8, .int .i64 a, .int .i64 b, .int .u8 y, .slice ba nb bc, .slice la nl lc] 33)) := hk0.alloc _
  obtain ⟨w1, hw1⟩ : ∃ k, w.alloc (.cells #[.int .i64 8, .int .i64 a, .int .i64 b, .int .u8 y, .slice ba nb bc, .slice la nl lc] 33) = k := ⟨_, rfl⟩
  rw [hw1] at hal hb hsz ht1 hk1
  have HW1 := hideD hw1
  clear hw1
  have hA' : ∀ W, Kf (fun j => A j ∧ j ≠ w.heap.size) w1 W → ∀ j, W.heap.size ≤ j → (fun j => A j ∧ j ≠ w.heap.size) j := fun W k j hj => by
    have := k.size
    exact ⟨a1 j (by omega), by omega⟩
  have hP : ∀ W, T2 W (fun j => A j ∧ j ≠ w.heap.size) X Y d d → Kf (fun j => A j ∧ j ≠ w.heap.size) w1 W → Calls Try.prog 27 #[.pointer (some ⟨X, 0, none⟩), .int .i64 a, .int .i64 b, .int .u8 y] W fun r w' => r = .returned (.bool (spoD d a b y).2) ∧ T2 w' (fun j => A j ∧ j ≠ w.heap.size) X Y (spoD d a b y).1 d ∧ Kf (fun j => A j ∧ j ≠ w.heap.size) w1 w' := fun W t k => (t2_spo t (hA' W k) hax).mono (fun r w' hh => ⟨hh.1, hh.2.1, k.trans hh.2.2⟩)
  have hQ : ∀ W, T2 W (fun j => A j ∧ j ≠ w.heap.size) X Y (spoD d a b y).1 d → Kf (fun j => A j ∧ j ≠ w.heap.size) w1 W → Calls Try.prog 28 #[.pointer (some ⟨Y, 0, none⟩), .int .i64 a, .int .i64 b, .int .u8 y] W fun r w' => r = .returned (.bool (spoD d a b y).2) ∧ T2 w' (fun j => A j ∧ j ≠ w.heap.size) X Y (spoD d a b y).1 (spoD d a b y).1 ∧ Kf (fun j => A j ∧ j ≠ w.heap.size) w1 w' := fun W t k => (t2_spoq t hok (hA' W k)).mono (fun r w' hh => ⟨hh.1, hh.2.1, k.trans hh.2.2⟩)
  obtain ⟨d1, hd1⟩ : ∃ k, (spoD d a b y).1 = k := ⟨_, rfl⟩
  rw [hd1] at hP hQ ⊢
  obtain ⟨r1, hr1⟩ : ∃ k, (spoD d a b y).2 = k := ⟨_, rfl⟩
  rw [hr1] at hP hQ
  clear hr1
  clear hd1 hA' hok hk1 hk0 hbs hls hwf hax ht
  have hb2 := hb
  obtain ⟨y1, _⟩ := hb2 1 _ rfl; obtain ⟨y2, _⟩ := hb2 2 _ rfl; obtain ⟨y3, _⟩ := hb2 3 _ rfl
  have hk : Kf (fun j => A j ∧ j ≠ w.heap.size) w1 w1 := Kf.refl _ _
  obtain ⟨y00, _⟩ := hb 0 _ rfl
  go_enter Try.func9, Try.ntmps9
  go_upto_region 1 with fail
  rw [HW1.out]
  clear HW1
  go_upto_region 22 with fail
  clear y00
  go_region_held_law (fun w' => w'.cell? ⟨w.heap.size, 1, none⟩ = some (.int .i64 a) ∧ w'.cell? ⟨w.heap.size, 2, none⟩ = some (.int .i64 b) ∧ w'.cell? ⟨w.heap.size, 3, none⟩ = some (.int .u8 y))
    ((refine ⟨?_, ?_, ?_⟩ <;> (repeat (first | (with_reducible exact y1) | (with_reducible exact y2) | (with_reducible exact y3) | (with_reducible refine cell_dw ?_))) <;> done))
    (first
      | (go_at_call 27; (first | (with_reducible refine (hP _ ht1 hk).mono ?_) | (with_reducible refine (hP _ ht1.drew hk.drew).mono ?_)); rintro e w2 ⟨rfl, ht2, hk⟩; have hb2 := hb.kA hk hNA; obtain ⟨y1, _⟩ := hb2 1 _ rfl; obtain ⟨y2, _⟩ := hb2 2 _ rfl; obtain ⟨y3, _⟩ := hb2 3 _ rfl)
      | (go_at_call 28; (first | (with_reducible refine (hQ _ ht2 hk).mono ?_) | (with_reducible refine (hQ _ ht2.drew hk.drew).mono ?_)); rintro e w3 ⟨rfl, ht3, hk⟩; have hb2 := hb.kA hk hNA; obtain ⟨y1, _⟩ := hb2 1 _ rfl; obtain ⟨y2, _⟩ := hb2 2 _ rfl; obtain ⟨y3, _⟩ := hb2 3 _ rfl)
      | fail)
  all_goals (
    go_wp2
    go_ret
    exact ⟨rfl, ht3.back, Kf.back hk hal⟩)

theorem T2.cY {w : World} {A : Nat → Prop} {X Y : Nat} {d e : Dk} (h : T2 w A X Y d e) : ∃ Lv, Bn w Y [Lv, .int .i64 e.room, .int .i64 e.fuse, .bool e.dead] := by
  obtain ⟨F, G, h1, ⟨Lv, E, q1, q2, q3, q4⟩, h3, h4⟩ := h
  exact ⟨Lv, q4⟩
theorem T2.setF {w : World} {A : Nat → Prop} {X Y : Nat} {d e : Dk} (h : T2 w A X Y d e) (m : Int) : T2 (w.setCell ⟨Y, 2, none⟩ (.int .i64 m)) A X Y d { e with fuse := m } ∧ Kf A w (w.setCell ⟨Y, 2, none⟩ (.int .i64 m)) := by
  obtain ⟨F, G, h1, ⟨Lv, E, q1, q2, q3, q4⟩, h3, h4⟩ := h
  have hY := h4 Y q1
  have hsz : (w.setCell ⟨Y, 2, none⟩ (.int .i64 m)).heap.size = w.heap.size := by simp
  refine ⟨⟨F, G, h1.keep (fun b hb hlt => Below.heap_setCell _ _ _ _ (fun e => (h3 b hb).2.2 (by have e : b = Y := e; rw [e]; exact q1))), ⟨Lv, E, q1, q2, q3.setY _, q4.set (i := 2) (by simp) _⟩, fun j hj => by rw [hsz]; exact h3 j hj, fun j hj => by rw [hsz]; exact h4 j hj⟩, (Kf.refl A w).set hY.1 _⟩
theorem T2.setR {w : World} {A : Nat → Prop} {X Y : Nat} {d e : Dk} (h : T2 w A X Y d e) (m : Int) : T2 (w.setCell ⟨Y, 1, none⟩ (.int .i64 m)) A X Y d { e with room := m } ∧ Kf A w (w.setCell ⟨Y, 1, none⟩ (.int .i64 m)) := by
  obtain ⟨F, G, h1, ⟨Lv, E, q1, q2, q3, q4⟩, h3, h4⟩ := h
  have hY := h4 Y q1
  have hsz : (w.setCell ⟨Y, 1, none⟩ (.int .i64 m)).heap.size = w.heap.size := by simp
  refine ⟨⟨F, G, h1.keep (fun b hb hlt => Below.heap_setCell _ _ _ _ (fun e => (h3 b hb).2.2 (by have e : b = Y := e; rw [e]; exact q1))), ⟨Lv, E, q1, q2, q3.setY _, q4.set (i := 1) (by simp) _⟩, fun j hj => by rw [hsz]; exact h3 j hj, fun j hj => by rw [hsz]; exact h4 j hj⟩, (Kf.refl A w).set hY.1 _⟩
section
variable {W : World} {A : Nat → Prop} {X Y : Nat} {d e : Dk}
theorem t2_read (h : T2 W A X Y d e) (hu : usM d.L ≤ 1000000) {n : Int} (hn : (Lit.int .i64 n).wf = true) :
    Calls Try.prog 12 #[.pointer (some ⟨X, 0, none⟩), .int .i64 n] W fun e w' => (∃ v', e = .returned (.tuple #[v', .int .i64 (redD d n).2]) ∧ Own w' W.heap.size 5 v' (redD d n).1) ∧ Below W.heap.size W w' := by
  obtain ⟨F, G, h1, _⟩ := h
  exact dread_any h1 hu hn
theorem t2_readq (h : T2 W A X Y d e) (hu : usM e.L ≤ 1000000) {n : Int} :
    Calls Try.prog 23 #[.pointer (some ⟨Y, 0, none⟩), .int .i64 n] W fun r w' => (∃ v', r = .returned (.tuple #[v', .int .i64 (redD e n).2]) ∧ Own w' W.heap.size 5 v' (redD e n).1) ∧ Below W.heap.size W w' := by
  obtain ⟨F, G, _, h1, _⟩ := h
  exact qread_any h1 hu
theorem t2_fuse (h : T2 W A X Y d e) (hA : ∀ j, W.heap.size ≤ j → A j) (n : Int) :
    Calls Try.prog 24 #[.pointer (some ⟨X, 0, none⟩), .int .i64 n] W fun r w' => r = .returned (.tuple #[]) ∧ T2 w' A X Y { d with fuse := max n (-1) } e ∧ Kf A W w' :=
  h.stepP (Q := fun r _ => r = .returned (.tuple #[])) hA (fun F hp hF => (dfuse_any hp n).mono (fun r w' hh => ⟨hh.1, hh.2.1.mono (fun j _ hj => .inl hj), hh.2.2⟩))
theorem t2_room (h : T2 W A X Y d e) (hA : ∀ j, W.heap.size ≤ j → A j) (n : Int) :
    Calls Try.prog 25 #[.pointer (some ⟨X, 0, none⟩), .int .i64 n] W fun r w' => r = .returned (.tuple #[]) ∧ T2 w' A X Y { d with room := max n 0 } e ∧ Kf A W w' :=
  h.stepP (Q := fun r _ => r = .returned (.tuple #[])) hA (fun F hp hF => (droom_any hp n).mono (fun r w' hh => ⟨hh.1, hh.2.1.mono (fun j _ hj => .inl hj), hh.2.2⟩))
end
set_option maxRecDepth 100000 in
set_option maxHeartbeats 4000000 in
theorem ldo_4 {w0 w : World} {A : Nat → Prop} {X Y : Nat} {d : Dk} {x : OpM} {bv lv : Value} (h : Dos w0 w A X Y d x bv lv) (hK : x.kind = 4) :
    Calls Try.prog 9 #[.pointer (some ⟨X, 0, none⟩), .pointer (some ⟨Y, 0, none⟩), .agg #[.int .i64 x.kind, .int .i64 x.a, .int .i64 x.b, .int .u8 x.y, bv, lv]] w fun e w' => e = .returned (.bool true) ∧ T2 w' A X Y d d ∧ Kf A w w' := by
  obtain ⟨K, a, b, y, bs, ls⟩ := x
  obtain ⟨ht, hok, a1, a0, hk0, hbs, hls, hwf, hbl, hll⟩ := h
  simp only at hK hbs hls hbl hll ⊢
  subst hK
  have hax := hwf.a
  simp only at hax
  obtain ⟨ba, bc, rfl, _⟩ := id hbs
  obtain ⟨la, lc, rfl, _⟩ := hls.form
  obtain ⟨nb, hnb⟩ : ∃ k, bs.length = k := ⟨_, rfl⟩
  obtain ⟨nl, hnl⟩ : ∃ k, ls.length = k := ⟨_, rfl⟩
  have hal : Below w.heap.size w (w.alloc (.cells #[.int .i64 4, .int .i64 a, .int .i64 b, .int .u8 y, .slice ba nb bc, .slice la nl lc] 33)) := (Below.refl _ _).alloc (Nat.le_refl _) _
  have hb : Bn (w.alloc (.cells #[.int .i64 4, .int .i64 a, .int .i64 b, .int .u8 y, .slice ba nb bc, .slice la nl lc] 33)) w.heap.size [.int .i64 4, .int .i64 a, .int .i64 b, .int .u8 y, .slice ba nb bc, .slice la nl lc] := Bn.new w [.int .i64 4, .int .i64 a, .int .i64 b, .int .u8 y, .slice ba nb bc, .slice la nl lc] _ _ rfl
  have hsz : (w.alloc (.cells #[.int .i64 4, .int .i64 a, .int .i64 b, .int .u8 y, .slice ba nb bc, .slice la nl lc] 33)).heap.size = w.heap.size + 1 := by simp
  rw [hnb] at hbs
  rw [hnl] at hls
  rw [hnb, hnl]
  have ht1 := (ht.but (Nat.le_refl w.heap.size)).on hal
  have hNA : ¬ (fun j => A j ∧ j ≠ w.heap.size) w.heap.size := fun h => h.2 rfl
  have hk1 : Kf A w0 (w.alloc (.cells #[.int .i64 4, .int .i64 a, .int .i64 b, .int .u8 y, .slice ba nb bc, .slice la nl lc] 33)) := hk0.alloc _
  obtain ⟨w1, hw1⟩ : ∃ k, w.alloc (.cells #[.int .i64 4, .int .i64 a, .int .i64 b, .int .u8 y, .slice ba nb bc, .slice la nl lc] 33) = k := ⟨_, rfl⟩
  rw [hw1] at hal hb hsz ht1 hk1
  have HW1 := hideD hw1
  clear hw1
  have hA' : ∀ W, Kf (fun j => A j ∧ j ≠ w.heap.size) w1 W → ∀ j, W.heap.size ≤ j → (fun j => A j ∧ j ≠ w.heap.size) j := fun W k j hj => by
    have := k.size
    exact ⟨a1 j (by omega), by omega⟩
  have hu := hok.us
  have hP := t2_read ht1 (by omega) hax
  have hQ : ∀ W, Below w1.heap.size w1 W → Calls Try.prog 23 #[.pointer (some ⟨Y, 0, none⟩), .int .i64 a] W fun r w' => (∃ v', r = .returned (.tuple #[v', .int .i64 (redD d a).2]) ∧ Own w' W.heap.size 5 v' (redD d a).1) ∧ Below W.heap.size W w' := fun W b => t2_readq (ht1.on b) (by omega)
  obtain ⟨rd, hrd⟩ : ∃ k, redD d a = k := ⟨_, rfl⟩
  rw [hrd] at hP hQ
  obtain ⟨sb, r1⟩ := rd
  simp only at hP hQ
  have HT := hideD ht1
  have HAL := hideD hal
  clear hrd hok hk1 hk0 hbs hls hwf hax ht ht1 hu hal hA' hNA
  obtain ⟨y0, _⟩ := hb 0 _ rfl
  obtain ⟨y1, _⟩ := hb 1 _ rfl
  go_enter Try.func9, Try.ntmps9
  go_upto_region 1 with fail
  rw [HW1.out]
  clear HW1
  go_wp2_with (first
    | (go_at_call 12; refine hP.mono ?_; rintro e w2 ⟨⟨v2, rfl, o2⟩, b2⟩; clear hP; have y1 := (b2.cell (p := ⟨w.heap.size, 1, none⟩) hb.lt).trans y1; have HB2 := hideD b2)
    | (go_at_call 23; refine (hQ _ b2).mono ?_; rintro e w3 ⟨⟨v3, rfl, o3⟩, b3⟩; clear hQ; obtain ⟨p1, p2, rfl, _, _⟩ := slice_form o2; obtain ⟨q1, q2, rfl, _, _⟩ := slice_form o3; have hc1 := (rd_on o2.rd b3).convert Try.underlying30 Try.underlying5 Try.underlying9; have hc2 := o3.rd.convert Try.underlying30 Try.underlying5 Try.underlying9; have HB3 := hideD b3; clear o2 o3 b2 b3)
    | fail)
  go_ret
  have hbb := HB2.out.trans (HB3.out.mono HB2.out.size)
  exact ⟨rfl, (HT.out.on hbb).back, (Kf.of HAL.out (Nat.le_refl _)).trans (Kf.of hbb (Nat.le_refl _))⟩
set_option maxRecDepth 100000 in
set_option maxHeartbeats 4000000 in
theorem ldo_5 {w0 w : World} {A : Nat → Prop} {X Y : Nat} {d : Dk} {x : OpM} {bv lv : Value} (h : Dos w0 w A X Y d x bv lv) (hK : x.kind = 5) :
    Calls Try.prog 9 #[.pointer (some ⟨X, 0, none⟩), .pointer (some ⟨Y, 0, none⟩), .agg #[.int .i64 x.kind, .int .i64 x.a, .int .i64 x.b, .int .u8 x.y, bv, lv]] w fun e w' => e = .returned (.bool true) ∧ T2 w' A X Y { d with fuse := max x.a (-1) } { d with fuse := max x.a (-1) } ∧ Kf A w w' := by
  obtain ⟨K, a, b, y, bs, ls⟩ := x
  obtain ⟨ht, hok, a1, a0, hk0, hbs, hls, hwf, hbl, hll⟩ := h
  simp only at hK hbs hls hbl hll ⊢
  subst hK
  have hax := hwf.a
  simp only at hax
  obtain ⟨ba, bc, rfl, _⟩ := id hbs
  obtain ⟨la, lc, rfl, _⟩ := hls.form
  obtain ⟨nb, hnb⟩ : ∃ k, bs.length = k := ⟨_, rfl⟩
  obtain ⟨nl, hnl⟩ : ∃ k, ls.length = k := ⟨_, rfl⟩
  have hal : Below w.heap.size w (w.alloc (.cells #[.int .i64 5, .int .i64 a, .int .i64 b, .int .u8 y, .slice ba nb bc, .slice la nl lc] 33)) := (Below.refl _ _).alloc (Nat.le_refl _) _
  have hb : Bn (w.alloc (.cells #[.int .i64 5, .int .i64 a, .int .i64 b, .int .u8 y, .slice ba nb bc, .slice la nl lc] 33)) w.heap.size [.int .i64 5, .int .i64 a, .int .i64 b, .int .u8 y, .slice ba nb bc, .slice la nl lc] := Bn.new w [.int .i64 5, .int .i64 a, .int .i64 b, .int .u8 y, .slice ba nb bc, .slice la nl lc] _ _ rfl
  have hsz : (w.alloc (.cells #[.int .i64 5, .int .i64 a, .int .i64 b, .int .u8 y, .slice ba nb bc, .slice la nl lc] 33)).heap.size = w.heap.size + 1 := by simp
  rw [hnb] at hbs
  rw [hnl] at hls
  rw [hnb, hnl]
  have ht1 := (ht.but (Nat.le_refl w.heap.size)).on hal
  have hNA : ¬ (fun j => A j ∧ j ≠ w.heap.size) w.heap.size := fun h => h.2 rfl
  have hk1 : Kf A w0 (w.alloc (.cells #[.int .i64 5, .int .i64 a, .int .i64 b, .int .u8 y, .slice ba nb bc, .slice la nl lc] 33)) := hk0.alloc _
  obtain ⟨w1, hw1⟩ : ∃ k, w.alloc (.cells #[.int .i64 5, .int .i64 a, .int .i64 b, .int .u8 y, .slice ba nb bc, .slice la nl lc] 33) = k := ⟨_, rfl⟩
  rw [hw1] at hal hb hsz ht1 hk1
  have HW1 := hideD hw1
  clear hw1
  have hA' : ∀ W, Kf (fun j => A j ∧ j ≠ w.heap.size) w1 W → ∀ j, W.heap.size ≤ j → (fun j => A j ∧ j ≠ w.heap.size) j := fun W k j hj => by
    have := k.size
    exact ⟨a1 j (by omega), by omega⟩
  have hP := t2_fuse ht1 (hA' w1 (Kf.refl _ _)) a
  have hS : ∀ W (m : Int), m = max a (-1) → T2 W (fun j => A j ∧ j ≠ w.heap.size) X Y { d with fuse := max a (-1) } d → Kf (fun j => A j ∧ j ≠ w.heap.size) w1 W → T2 (W.setCell ⟨Y, 2, none⟩ (.int .i64 m)) A X Y { d with fuse := max a (-1) } { d with fuse := max a (-1) } ∧ Kf A w (W.setCell ⟨Y, 2, none⟩ (.int .i64 m)) := fun W m hm t k => by
    subst hm
    exact ⟨(t.setF _).1.back, Kf.back (k.trans (t.setF _).2) hal⟩
  clear hok hk1 hk0 hbs hls hwf hax ht ht1 hA'
  obtain ⟨y0, _⟩ := hb 0 _ rfl
  obtain ⟨y1, _⟩ := hb 1 _ rfl
  go_enter Try.func9, Try.ntmps9
  go_upto_region 1 with fail
  rw [HW1.out]
  clear HW1
  go_wp2_with (first
    | (go_at_call 24; refine hP.mono ?_; rintro e w2 ⟨rfl, ht2, hk⟩; clear hP; have y1 := (hb.kA hk hNA 1 _ rfl).1; obtain ⟨Lv, hYc⟩ := ht2.cY; obtain ⟨z2, f2⟩ := hYc 2 _ rfl; have HS := hideD (hS w2 _ rfl ht2 hk); clear hS hYc)
    | fail)
  go_ret
  exact ⟨rfl, HS.out⟩
set_option maxRecDepth 100000 in
set_option maxHeartbeats 4000000 in
theorem ldo_6 {w0 w : World} {A : Nat → Prop} {X Y : Nat} {d : Dk} {x : OpM} {bv lv : Value} (h : Dos w0 w A X Y d x bv lv) (hK : x.kind = 6) :
    Calls Try.prog 9 #[.pointer (some ⟨X, 0, none⟩), .pointer (some ⟨Y, 0, none⟩), .agg #[.int .i64 x.kind, .int .i64 x.a, .int .i64 x.b, .int .u8 x.y, bv, lv]] w fun e w' => e = .returned (.bool true) ∧ T2 w' A X Y { d with room := max x.a 0 } { d with room := max x.a 0 } ∧ Kf A w w' := by
  obtain ⟨K, a, b, y, bs, ls⟩ := x
  obtain ⟨ht, hok, a1, a0, hk0, hbs, hls, hwf, hbl, hll⟩ := h
  simp only at hK hbs hls hbl hll ⊢
  subst hK
  have hax := hwf.a
  simp only at hax
  obtain ⟨ba, bc, rfl, _⟩ := id hbs
  obtain ⟨la, lc, rfl, _⟩ := hls.form
  obtain ⟨nb, hnb⟩ : ∃ k, bs.length = k := ⟨_, rfl⟩
  obtain ⟨nl, hnl⟩ : ∃ k, ls.length = k := ⟨_, rfl⟩
  have hal : Below w.heap.size w (w.alloc (.cells #[.int .i64 6, .int .i64 a, .int .i64 b, .int .u8 y, .slice ba nb bc, .slice la nl lc] 33)) := (Below.refl _ _).alloc (Nat.le_refl _) _
  have hb : Bn (w.alloc (.cells #[.int .i64 6, .int .i64 a, .int .i64 b, .int .u8 y, .slice ba nb bc, .slice la nl lc] 33)) w.heap.size [.int .i64 6, .int .i64 a, .int .i64 b, .int .u8 y, .slice ba nb bc, .slice la nl lc] := Bn.new w [.int .i64 6, .int .i64 a, .int .i64 b, .int .u8 y, .slice ba nb bc, .slice la nl lc] _ _ rfl
  have hsz : (w.alloc (.cells #[.int .i64 6, .int .i64 a, .int .i64 b, .int .u8 y, .slice ba nb bc, .slice la nl lc] 33)).heap.size = w.heap.size + 1 := by simp
  rw [hnb] at hbs
  rw [hnl] at hls
  rw [hnb, hnl]
  have ht1 := (ht.but (Nat.le_refl w.heap.size)).on hal
  have hNA : ¬ (fun j => A j ∧ j ≠ w.heap.size) w.heap.size := fun h => h.2 rfl
  have hk1 : Kf A w0 (w.alloc (.cells #[.int .i64 6, .int .i64 a, .int .i64 b, .int .u8 y, .slice ba nb bc, .slice la nl lc] 33)) := hk0.alloc _
  obtain ⟨w1, hw1⟩ : ∃ k, w.alloc (.cells #[.int .i64 6, .int .i64 a, .int .i64 b, .int .u8 y, .slice ba nb bc, .slice la nl lc] 33) = k := ⟨_, rfl⟩
  rw [hw1] at hal hb hsz ht1 hk1
  have HW1 := hideD hw1
  clear hw1
  have hA' : ∀ W, Kf (fun j => A j ∧ j ≠ w.heap.size) w1 W → ∀ j, W.heap.size ≤ j → (fun j => A j ∧ j ≠ w.heap.size) j := fun W k j hj => by
    have := k.size
    exact ⟨a1 j (by omega), by omega⟩
  have hP := t2_room ht1 (hA' w1 (Kf.refl _ _)) a
  have hS : ∀ W (m : Int), m = max a 0 → T2 W (fun j => A j ∧ j ≠ w.heap.size) X Y { d with room := max a 0 } d → Kf (fun j => A j ∧ j ≠ w.heap.size) w1 W → T2 (W.setCell ⟨Y, 1, none⟩ (.int .i64 m)) A X Y { d with room := max a 0 } { d with room := max a 0 } ∧ Kf A w (W.setCell ⟨Y, 1, none⟩ (.int .i64 m)) := fun W m hm t k => by
    subst hm
    exact ⟨(t.setR _).1.back, Kf.back (k.trans (t.setR _).2) hal⟩
  clear hok hk1 hk0 hbs hls hwf hax ht ht1 hA'
  obtain ⟨y0, _⟩ := hb 0 _ rfl
  obtain ⟨y1, _⟩ := hb 1 _ rfl
  go_enter Try.func9, Try.ntmps9
  go_upto_region 1 with fail
  rw [HW1.out]
  clear HW1
  go_wp2_with (first
    | (go_at_call 25; refine hP.mono ?_; rintro e w2 ⟨rfl, ht2, hk⟩; clear hP; have y1 := (hb.kA hk hNA 1 _ rfl).1; obtain ⟨Lv, hYc⟩ := ht2.cY; obtain ⟨z1, f1⟩ := hYc 1 _ rfl; have HS := hideD (hS w2 _ rfl ht2 hk); clear hS hYc)
    | fail)
  go_ret
  exact ⟨rfl, HS.out⟩
set_option maxRecDepth 100000 in
set_option maxHeartbeats 4000000 in
theorem ldo_no {w0 w : World} {A : Nat → Prop} {X Y : Nat} {d : Dk} {x : OpM} {bv lv : Value} (h : Dos w0 w A X Y d x bv lv) (hK : x.kind ≠ 1 ∧ x.kind ≠ 2 ∧ x.kind ≠ 3 ∧ x.kind ≠ 4 ∧ x.kind ≠ 5 ∧ x.kind ≠ 6 ∧ x.kind ≠ 7 ∧ x.kind ≠ 8) :
    Calls Try.prog 9 #[.pointer (some ⟨X, 0, none⟩), .pointer (some ⟨Y, 0, none⟩), .agg #[.int .i64 x.kind, .int .i64 x.a, .int .i64 x.b, .int .u8 x.y, bv, lv]] w fun e w' => e = .returned (.bool true) ∧ T2 w' A X Y d d ∧ Kf A w w' := by
  obtain ⟨K, a, b, y, bs, ls⟩ := x
  obtain ⟨ht, hok, a1, a0, hk0, hbs, hls, hwf, hbl, hll⟩ := h
  simp only at hK hbs hls hbl hll ⊢
  have hax := hwf.a
  simp only at hax
  obtain ⟨ba, bc, rfl, _⟩ := id hbs
  obtain ⟨la, lc, rfl, _⟩ := hls.form
  obtain ⟨nb, hnb⟩ : ∃ k, bs.length = k := ⟨_, rfl⟩
  obtain ⟨nl, hnl⟩ : ∃ k, ls.length = k := ⟨_, rfl⟩
  have hal : Below w.heap.size w (w.alloc (.cells #[.int .i64 K, .int .i64 a, .int .i64 b, .int .u8 y, .slice ba nb bc, .slice la nl lc] 33)) := (Below.refl _ _).alloc (Nat.le_refl _) _
  have hb : Bn (w.alloc (.cells #[.int .i64 K, .int .i64 a, .int .i64 b, .int .u8 y, .slice ba nb bc, .slice la nl lc] 33)) w.heap.size [.int .i64 K, .int .i64 a, .int .i64 b, .int .u8 y, .slice ba nb bc, .slice la nl lc] := Bn.new w [.int .i64 K, .int .i64 a, .int .i64 b, .int .u8 y, .slice ba nb bc, .slice la nl lc] _ _ rfl
  have hsz : (w.alloc (.cells #[.int .i64 K, .int .i64 a, .int .i64 b, .int .u8 y, .slice ba nb bc, .slice la nl lc] 33)).heap.size = w.heap.size + 1 := by simp
  rw [hnb] at hbs
  rw [hnl] at hls
  rw [hnb, hnl]
  have ht1 := (ht.but (Nat.le_refl w.heap.size)).on hal
  have hNA : ¬ (fun j => A j ∧ j ≠ w.heap.size) w.heap.size := fun h => h.2 rfl
  have hk1 : Kf A w0 (w.alloc (.cells #[.int .i64 K, .int .i64 a, .int .i64 b, .int .u8 y, .slice ba nb bc, .slice la nl lc] 33)) := hk0.alloc _
  obtain ⟨w1, hw1⟩ : ∃ k, w.alloc (.cells #[.int .i64 K, .int .i64 a, .int .i64 b, .int .u8 y, .slice ba nb bc, .slice la nl lc] 33) = k := ⟨_, rfl⟩
  rw [hw1] at hal hb hsz ht1 hk1
  have HW1 := hideD hw1
  clear hw1
  have hA' : ∀ W, Kf (fun j => A j ∧ j ≠ w.heap.size) w1 W → ∀ j, W.heap.size ≤ j → (fun j => A j ∧ j ≠ w.heap.size) j := fun W k j hj => by
    have := k.size
    exact ⟨a1 j (by omega), by omega⟩
  obtain ⟨k1, k2, k3, k4, k5, k6, k7, k8⟩ := hK
  have HT := hideD ht1
  have HAL := hideD hal
  clear hok hk1 hk0 hbs hls hwf hax ht ht1 hA' hal
  obtain ⟨y0, _⟩ := hb 0 _ rfl
  go_enter Try.func9, Try.ntmps9
  go_upto_region 1 with fail
  rw [HW1.out]
  clear HW1
  go_wp2
  go_ret
  exact ⟨rfl, HT.out.back, Kf.of HAL.out (Nat.le_refl _)⟩
theorem ldo_any {w0 w : World} {A : Nat → Prop} {X Y : Nat} {d : Dk} {x : OpM} {bv lv : Value} (h : Dos w0 w A X Y d x bv lv) :
    Calls Try.prog 9 #[.pointer (some ⟨X, 0, none⟩), .pointer (some ⟨Y, 0, none⟩), .agg #[.int .i64 x.kind, .int .i64 x.a, .int .i64 x.b, .int .u8 x.y, bv, lv]] w fun e w' => e = .returned (.bool true) ∧ T2 w' A X Y (doD d x) (doD d x) ∧ Kf A w w' := by
  unfold doD
  by_cases h1 : x.kind = 1
  · rw [if_pos h1]; exact ldo_1 h h1
  rw [if_neg h1]
  by_cases h2 : x.kind = 2
  · rw [if_pos h2]; exact ldo_2 h h2
  rw [if_neg h2]
  by_cases h3 : x.kind = 3
  · rw [if_pos h3]; exact ldo_3 h h3
  rw [if_neg h3]
  by_cases h5 : x.kind = 5
  · rw [if_pos h5]; exact ldo_5 h h5
  rw [if_neg h5]
  by_cases h6 : x.kind = 6
  · rw [if_pos h6]; exact ldo_6 h h6
  rw [if_neg h6]
  by_cases h7 : x.kind = 7
  · rw [if_pos h7]; exact ldo_7 h h7
  rw [if_neg h7]
  by_cases h8 : x.kind = 8
  · rw [if_pos h8]; exact ldo_8 h h8
  rw [if_neg h8]
  by_cases h4 : x.kind = 4
  · exact ldo_4 h h4
  exact ldo_no h ⟨h1, h2, h3, h4, h5, h6, h7, h8⟩

theorem dk_conv (w : World) (C : Array Value) (n c : Nat) :
    (convert 30 30 (.slice (some ⟨w.heap.size, 0, none⟩) n c)).run Try.prog (w.alloc (.cells C 5)) = .ok (.slice (some ⟨w.heap.size, 0, none⟩) n c) (w.alloc (.cells C 5 (C.size, C.size + 1))) :=
  Lib.run_convert_bytes_const (P := Try.prog) w 30 5 C n c Try.underlying30 Try.underlying5
set_option maxRecDepth 100000 in
set_option maxHeartbeats 2000000 in
theorem dawake_any (w : World) : Calls Try.prog 5 #[] w fun e w' => e = .returned (.bool true) ∧ Below w.heap.size w w' := by
  have hnew := fun W => dnew_any W 100
  have hT : ∀ W : World, Rd (W.alloc (.cells #[.int .u8 97, .int .u8 98] 5 (2, 3))) (.slice (some ⟨W.heap.size, 0, none⟩) 2 2) [97, 98] := fun W => by
    refine ⟨_, _, rfl, by simp, by simp [maxLen], ⟨fun h => by simp at h, fun x hx i hi => ?_⟩⟩
    obtain rfl := Option.some.inj hx
    match i, hi with
    | 0, _ => exact (cell_of_row _ _ 0 _ _ (2, 3) (heap_alloc_new W _)).trans rfl
    | 1, _ => exact (cell_of_row _ _ 1 _ _ (2, 3) (heap_alloc_new W _)).trans rfl
  go_enter Try.func5, Try.ntmps5
  go_upto_region 2 with (first
    | (go_at_call 7; refine (hnew _).mono ?_; rintro e w1 ⟨rfl, p1, b1⟩; clear hnew)
    | fail)
  have p2 := p1.on ((Below.refl w1.heap.size w1).alloc (Nat.le_refl _) (.cells #[.int .u8 97, .int .u8 98] 5 (2, 3)))
  have hR2 := hT w1
  have hsz : w.heap.size < w1.heap.size := p1.lt
  have hbw : Below w.heap.size w (w1.alloc (.cells #[.int .u8 97, .int .u8 98] 5 (2, 3))) := b1.alloc (by omega) _
  have hs1 : (w1.alloc (.cells #[.int .u8 97, .int .u8 98] 5 (2, 3))).heap.size = w1.heap.size + 1 := by simp
  have hkv := dk_conv w1 #[.int .u8 97, .int .u8 98] 2 2
  simp only [List.size_toArray, List.length_cons, List.length_nil, Nat.reduceAdd] at hkv
  have hap := dapp_any (n := 1) (v := .slice (some ⟨w1.heap.size, 0, none⟩) 2 2) (bs := [97, 98]) p2 (by decide) (by decide) (by decide) (by decide) (by decide) (by decide) (fun w' k => by
    obtain ⟨a, c, e1, e2, e3, e4, e5⟩ := hR2
    exact ⟨a, c, e1, e2, e3, e4, fun x hx i hi => (World.cell?_of_block (k.block _ (World.block_lt_of_cell? _ _ (e5 x hx i hi)) (fun e => by
      simp only [Value.slice.injEq] at e1
      obtain ⟨e1, _⟩ := e1
      rw [← e1] at hx
      obtain rfl := Option.some.inj hx
      have : (Addr.add ⟨w1.heap.size, 0, none⟩ i).block = w1.heap.size := by unfold Addr.add; split <;> rfl
      omega))).trans (e5 x hx i hi)⟩)
  have hr : appD ⟨[], max 100 0, -1, false⟩ 1 [97, 98] = (⟨[(1, [97, 98], 0)], 100, -1, false⟩, 0) := rfl
  rw [hr] at hap
  have hus := fun W F (h : PD W w.heap.size F ⟨[(1, [97, 98], 0)], 100, -1, false⟩) => dused_any h
  have hu2 : usM [((1 : Int), ([97, 98] : List Int), (0 : Nat))] = 2 := rfl
  simp only [hu2] at hus
  have HR := hideD hR2
  have HP := hideD p2
  clear hT p1 p2 hR2 b1 hr
  go_wp2_with (first
    | (go_at_call 16; refine hap.mono ?_; rintro e w3 ⟨rfl, p3, k3⟩; clear hap; have hu3 := hus _ _ p3; clear hus)
    | (go_at_call 17; refine hu3.mono ?_; rintro e w4 ⟨rfl, rfl⟩; clear hu3)
    | fail)
  go_ret
  exact ⟨rfl, hbw.trans (k3.below (fun j hj => by have : j = w.heap.size := hj; omega) (by omega))⟩

theorem t2_same {W : World} {A : Nat → Prop} {X Y : Nat} {d : Dk} (h : T2 W A X Y d d) (ok : Ok d 1000 500000) :
    Calls Try.prog 10 #[.pointer (some ⟨X, 0, none⟩), .pointer (some ⟨Y, 0, none⟩)] W fun e w' => e = .returned (.bool true) ∧ Below W.heap.size W w' := by
  obtain ⟨F, G, h1, h2, _⟩ := h
  exact lsame_any h1 h2 (by have := ok.us; omega) (by have := ok.len; omega) (fun x hx => (ok.s x hx).2)
theorem t2_new {w w1 w2 : World} {d : Dk} (h1 : PD w1 w.heap.size (fun j => j = w.heap.size) d) (b1 : Below w.heap.size w w1) (h2 : QD w2 w1.heap.size (fun j => j = w1.heap.size) d) (b2 : Below w1.heap.size w1 w2) : T2 w2 (fun j => w.heap.size ≤ j) w.heap.size w1.heap.size d d := by
  have l1 := h1.lt
  have l2 := h2.lt
  have s2 := b2.size
  refine ⟨_, _, h1.on b2, h2, fun j hj => ?_, fun j hj => ?_⟩
  · have hj : j = w.heap.size := hj
    subst hj
    exact ⟨Nat.le_refl _, by omega, fun e => by have e : w.heap.size = w1.heap.size := e; omega⟩
  · have hj : j = w1.heap.size := hj
    subst hj
    exact ⟨by show w.heap.size ≤ w1.heap.size; omega, l2⟩
def djs (d : Dk) (l : List OpM) (j : Nat) : Dk := (l.take j).foldl doD d
theorem djs_succ {d : Dk} {l : List OpM} {j : Nat} (h : j < l.length) : djs d l (j + 1) = doD (djs d l j) l[j] := by
  unfold djs
  rw [List.take_succ_eq_append_getElem h, List.foldl_append]
  rfl
theorem djs_ok {d : Dk} {l : List OpM} (h0 : Ok d 0 0) (hw : ∀ x ∈ l, WfO x) : ∀ j, j ≤ l.length → Ok (djs d l j) j (smO l j)
  | 0, _ => by simpa [djs, smO] using h0
  | j + 1, h => by
    have ih := djs_ok h0 hw j (by omega)
    rw [djs_succ (by omega), smO_succ (by omega)]
    exact ih.do (hw _ (List.getElem_mem _))
set_option maxRecDepth 100000 in
set_option maxHeartbeats 4000000 in
theorem diskPlays_walk {w : World} (n : Int) {l : List OpM} {v : Value} (hn : (Lit.int .i64 n).wf = true) (h : RdO w l v) (hw : ∀ x ∈ l, WfO x) : Calls Try.prog 3 #[.int .i64 n, v] w fun e w' => e = .returned (.bool true) ∧ Below w.heap.size w w' := by
  have haw := fun W => dawake_any W
  obtain ⟨R, hR⟩ : ∃ R, fewL 0 0 l = R := ⟨_, rfl⟩
  have hfew := fun (W : World) (b : Below w.heap.size w W) => few_any (h.on b) hw
  simp only [hR] at hfew
  obtain ⟨a, c, rfl, hlc, hcm, hcell⟩ := h
  unfold maxLen at hcm
  have hb0 : Below w.heap.size w w := Below.refl _ _
  cases R with
  | false =>
    clear hR hcell
    go_enter Try.func3, Try.ntmps3
    go_wp2_with (first
      | (go_at_call 5; refine (haw _).mono ?_; rintro e w2 ⟨rfl, b2⟩; have hb0 := hb0.trans (b2.mono hb0.size))
      | (go_at_call 6; refine (hfew _ hb0).mono ?_; rintro e w3 ⟨rfl, rfl⟩)
      | fail)
    go_ret
    exact ⟨rfl, hb0⟩
  | true =>
    have hnew := fun W => dnew_any W n
    have hnewq := fun W => qnew_any W n
    obtain ⟨D0, hD0⟩ : ∃ k, (⟨[], max n 0, -1, false⟩ : Dk) = k := ⟨_, rfl⟩
    have hok0 : Ok D0 0 0 := by rw [← hD0]; exact ok_new n (wf_in hn).2
    rw [hD0] at hnew hnewq
    have hok := fun j (hj : j ≤ l.length) => djs_ok hok0 hw j hj
    obtain ⟨m, hm⟩ : ∃ k, l.length = k := ⟨_, rfl⟩
    have HOK := hideD hok
    have HFA := hideD (few_all hR)
    have HL := hideD hcell
    have HM := hideD hm
    rw [hm] at hlc hfew ⊢
    have hm2 : m ≤ 150 := by have := few_len hR; omega
    clear hR hcell hok hok0 hD0 hm hn
    go_enter Try.func3, Try.ntmps3
    go_upto_region 4 with (first
      | (go_at_call 5; refine (haw _).mono ?_; rintro e w2 ⟨rfl, b2⟩; have hb0 := hb0.trans (b2.mono hb0.size))
      | (go_at_call 6; refine (hfew _ hb0).mono ?_; rintro e w3 ⟨rfl, rfl⟩)
      | (go_at_call 7; refine (hnew _).mono ?_; rintro e w4 ⟨rfl, p4, b4⟩)
      | (go_at_call 8; refine (hnewq _).mono ?_; rintro e w5 ⟨rfl, p5, b5⟩)
      | fail)
    have ht0 := t2_new p4 b4 p5 b5
    have hk0 : Kf (fun j => w2.heap.size ≤ j) w2 w5 := (Kf.of b4 (Nat.le_refl _)).trans (Kf.of b5 (Nat.le_refl _))
    have HB := hideD hb0
    have HT0 := hideD ht0
    have HK0 := hideD hk0
    obtain ⟨X, hX⟩ : ∃ k, w2.heap.size = k := ⟨_, rfl⟩
    obtain ⟨Y, hY⟩ : ∃ k, w4.heap.size = k := ⟨_, rfl⟩
    rw [hX, hY] at HT0
    rw [hX] at HK0
    rw [hX, hY]
    have HX := hideD hX
    clear hb0 ht0 hk0 p4 b4 p5 b5 hX hY b2 haw hfew hnew hnewq
    go_wp2
    go_loopw [22] (fun ix wr => ∃ (j : Nat), j ≤ m ∧ ix = .int .i64 (j : Int) ∧ Hid (T2 wr (fun j => X ≤ j) X Y (djs D0 l j) (djs D0 l j)) ∧ Hid (Kf (fun j => X ≤ j) w2 wr)) (fun ix _ => m - (RowKit.intOf ix).toNat)
    case atStart => exact ⟨0, Nat.zero_le _, rfl, HT0, HK0⟩
    case round =>
      obtain ⟨j, hj, rfl, HT, HK⟩ := hrel
      by_cases hlt : j < m
      · have hjl : j < l.length := by rw [HM.out]; exact hlt
        obtain ⟨b, off, cs, ha, _, hbl, _, ⟨bv, lv, rfl, h4, h5⟩, hcs⟩ := HL.out j hjl
        subst ha
        obtain ⟨ba, bc, rfl, _⟩ := id h4
        obtain ⟨la, lc, rfl, _⟩ := h5.form
        obtain ⟨f1, f2, f3, _⟩ := HFA.out j hjl
        have f4 := smO_succ hjl
        have hxs : X ≤ wr.heap.size := by have := HK.out.size; have := HX.out; omega
        have hws : w.heap.size ≤ X := by have := HB.out.size; have := HX.out; omega
        have hwr : Kf (fun j => X ≤ j) w wr := (Kf.of (HB.out.trans (Below.refl _ _)) (Nat.le_refl _)).trans HK.out
        have hokj := HOK.out j (by omega)
        have hokS := HOK.out (j + 1) (by omega)
        have hdo := ldo_any (x := l[j]) (bv := .slice ba (l[j]).bs.length bc) (lv := .slice la (l[j]).ls.length lc) ⟨HT.out, hokj.mono (by omega) (by omega), fun i hi => by show X ≤ i; omega, fun i hi => by have hi : X ≤ i := hi; omega, hwr, h4, h5, hw _ (List.getElem_mem hjl), by omega, f3⟩
        rw [← djs_succ hjl] at hdo
        have hsm := fun W (t : T2 W (fun j => X ≤ j) X Y (djs D0 l (j + 1)) (djs D0 l (j + 1))) => t2_same t (hokS.mono (by omega) (by omega))
        have hbw : Below w.heap.size w wr := hwr.below (fun i hi => by have hi : X ≤ i := hi; omega) (Nat.le_refl _)
        have hcr := fun i u hi => (hbw.cell (p := ⟨b, off + j * 6 + i, none⟩) hbl).trans (hcs i u hi)
        have c0 := hcr 0 _ rfl
        rw [Nat.add_zero] at c0
        have c1 := hcr 1 _ rfl
        have c2 := hcr 2 _ rfl
        have c3 := hcr 3 _ rfl
        have c4 := hcr 4 _ rfl
        have c5 := hcr 5 _ rfl
        obtain ⟨D1, hD1⟩ : ∃ k, djs D0 l (j + 1) = k := ⟨_, rfl⟩
        rw [hD1] at hdo hsm
        have HD1 := hideD hD1
        obtain ⟨x, hx⟩ : ∃ k, l[j] = k := ⟨_, rfl⟩
        rw [hx] at hdo c0 c1 c2 c3 c4 c5
        have i1 : (j : Int) < (m : Int) := by omega
        have i2 : (0 : Int) ≤ (j : Int) := by omega
        clear hcr hcs hD1 hx hbw hokS hokj hwr f1 f2 f3 f4 h4 h5 hxs hws
        go_wp2_with (first
          | (go_at_call 9; refine hdo.mono ?_; rintro e w6 ⟨rfl, t6, k6⟩; clear hdo)
          | (go_at_call 10; refine (hsm _ t6).mono ?_; rintro e w7 ⟨rfl, b7⟩; clear hsm; have HT7 := hideD (t6.on b7); have HK7 := hideD ((HK.out.trans k6).trans (Kf.of b7 (Nat.le_refl _))))
          | fail)
        clear t6 b7 k6
        go_roundw
        case rel =>
          refine ⟨j + 1, hlt, by go_num, ?_, HK7⟩
          rw [HD1.out]
          exact HT7
        case measure => simp [RowKit.intOf]; omega
      · have k1 : ¬ (j : Int) < (m : Int) := by omega
        go_wp2
        go_ret
        exact ⟨rfl, HB.out.trans (HK.out.below (fun i hi => by have hi : X ≤ i := hi; have := HX.out; have := HB.out.size; omega) HB.out.size)⟩
end Go.Proofs.Ytibmbbiipffooaa

/- An argument that is a slice of bytes, opened: the bytes that it reads as, each from 0 to 255, and their number within the form's reach. -/
namespace Go.Proofs.Ytibmbbiipffooaa
open Go.ChangeShapes Go.WideShapes Go.ChangeAt Go.RowKit

end Go.Proofs.Ytibmbbiipffooaa

/- Nodes: which one lies in which, by how deep they lie, and by their parents. Math alone. -/
namespace Go.Proofs.Ytibmbbiipffooaa
set_option linter.unusedVariables false

/-- The last one ahead of k that lies less than d deep. -/
def ppar (D : Nat → Int) (d : Int) : Nat → Int
  | 0 => -1
  | k + 1 => if D k < d then (k : Int) else ppar D d k
/-- The first one from j on, of f, that lies no more than d deep. -/
def pbeh (D : Nat → Int) (d : Int) : Nat → Nat → Nat
  | 0, j => j
  | f + 1, j => if d < D j then pbeh D d f (j + 1) else j
/-- Each lies at most 1 deeper than the one ahead. -/
def nst (D : Nat → Int) (n : Nat) : Prop := ∀ i < n, 0 ≤ D i ∧ (i = 0 → D i ≤ 0) ∧ (0 < i → D i ≤ D (i - 1) + 1)
/-- What is told of the nodes follows of how deep they lie. -/
def FmP (n : Nat) (D P B : Nat → Int) (L : Nat → Bool) : Prop :=
  n ≤ 40 ∧ nst D n ∧ ∀ i < n, P i = ppar D (D i) i ∧ B i = (pbeh D (D i) (n - (i + 1)) (i + 1) : Nat) ∧ L i = decide (B i = (i : Int) + 1)
end Go.Proofs.Ytibmbbiipffooaa

/- Nodes in memory. -/
namespace Go.Proofs.Ytibmbbiipffooaa
open Go.RowKit Go.Lib
set_option linter.unusedSimpArgs false
set_option linter.unusedVariables false

instance decNst (D : Nat → Int) (n : Nat) : Decidable (nst D n) := by unfold nst; infer_instance
instance decFmP (n : Nat) (D P B : Nat → Int) (L : Nat → Bool) : Decidable (FmP n D P B L) := by unfold FmP; infer_instance
theorem RdK.on {α : Type} {ok : Nat → Prop} {w w' : World} {k : Nat} {R : (Nat → Prop) → World → α → List Value → Prop} {v : Value} {l : List α} (hR : Kp R) (h : RdK ok w k (R ok w) l v) (hb : Below w.heap.size w w') : RdK ok w' k (R ok w') l v :=
  h.stay hR (fun b hk hlt => ⟨hk, hb.block b hlt⟩)
end Go.Proofs.Ytibmbbiipffooaa

/- Arguments that are rows of nodes, opened. -/
namespace Go.Proofs.Ytibmbbiipffooaa
open Go.ChangeShapes Go.WideShapes Go.ChangeAt Go.RowKit
set_option linter.unusedSimpArgs false
set_option linter.unusedVariables false

theorem pickD {α : Type} {Q : Nat → α → Prop} : ∀ n, (∀ i, i < n → ∃ y, Q i y) → ∃ l : List α, l.length = n ∧ ∀ i (h : i < l.length), Q i l[i]
  | 0, _ => ⟨[], rfl, fun i h => absurd h (by simp)⟩
  | n + 1, h => by
    obtain ⟨l, hl, hq⟩ := pickD n (fun i hi => h i (by omega))
    obtain ⟨y, hy⟩ := h n (by omega)
    refine ⟨l ++ [y], by simp [hl], fun i hi => ?_⟩
    by_cases hin : i < l.length
    · rw [List.getElem_append_left hin]
      exact hq i hin
    · have e : i = l.length := by simp at hi; omega
      subst e
      simp only [List.getElem_concat_length]
      rw [hl]
      exact hy
theorem weights_allD {H : Type} {P : Program} {e : TypeId} : ∀ {l : List (DataW H)} {d : DataW H}, d ∈ l → ∀ n ∈ d.weights P e, n ∈ DataW.weightsAll P e l
  | x :: r, d, h, n, hn => by
    simp only [DataW.weightsAll, List.mem_append]
    rcases List.mem_cons.1 h with rfl | h
    · exact .inl hn
    · exact .inr (weights_allD h n hn)
/-- What is met is not larger than what there may be. -/
def WtD {H : Type} (t : TypeId) (d : DataW H) : Prop := ∀ n ∈ d.weights Try.prog t, n ≤ reachBytes
theorem WtD.field {H : Type} {t u : TypeId} {fs : Array Field} {f : Field} {xs : List (DataW H × List MemPlace)} {y : DataW H × List MemPlace} (hu : Try.prog.underlying t = some (.struct fs)) (h : WtD t (.agg (xs.map (·.1)))) (j : Nat) (hf : fs[j]? = some f) (hy : xs[j]? = some y) (ht : f.type = u) : WtD u y.1 := fun n hn => by
  refine h n ?_
  simp only [DataW.weights, hu]
  refine DataW.weights_mem_each (j := j) (t := u) (d := y.1) ?_ (by simp [hy]) n hn
  simp [hf, ht]
theorem spot_noneD {w : World} {a : Addr} {v : Value} (h : w.cell? (a.add 0) = some v) : a = ⟨a.block, a.off, none⟩ := by
  rw [show a.add 0 = a from by simp [Addr.add]] at h
  unfold World.cell? at h
  split at h
  · obtain ⟨b, o, s⟩ := a
    cases s with
    | none => rfl
    | some x => simp at h
  · cases h
theorem RdK.bothD {α : Type} {ok : Nat → Prop} {w : World} {k : Nat} {R : α → List Value → Prop} {Q : α → Prop} {l : List α} {v : Value} (h : RdK ok w k (fun x cs => R x cs ∧ Q x) l v) : RdK ok w k R l v ∧ ∀ x ∈ l, Q x := by
  obtain ⟨a, cap, h1, h2, h3, h4⟩ := h
  refine ⟨⟨a, cap, h1, h2, h3, fun i hi => ?_⟩, fun x hx => ?_⟩
  · obtain ⟨b, off, cs, q1, q2, q3, q4, q5, q6⟩ := h4 i hi
    exact ⟨b, off, cs, q1, q2, q3, q4, q5.1, q6⟩
  · obtain ⟨i, hi, rfl⟩ := List.getElem_of_mem hx
    obtain ⟨b, off, cs, q1, q2, q3, q4, q5, q6⟩ := h4 i hi
    exact q5.2
section
variable {H : Type} {enc : TypeId × Value → H} {W : World}
theorem open_rowD {α : Type} {k : Nat} {R : α → List Value → Prop} {sl el : TypeId} (hu : Try.prog.underlying sl = some (.slice el)) (hc : Try.prog.cellsOf el = k) (hk : 0 < k) (hby : decide (1 ≤ Try.prog.bytesOf el) = true) {fuel : Nat} {cs : List Value} {x : DataW H × List MemPlace}
    (h : DataW.trod enc Try.prog W 0 (fun _ => true) true fuel sl cs = some x) (hw : WtD sl x.1) (hel : ∀ n' cs' y, fuel = n' + 1 → DataW.trod enc Try.prog W 0 (fun _ => true) true n' el cs' = some y → WtD el y.1 → ∃ a, R a cs') :
    ∃ (l : List α) (v : Value), cs = [v] ∧ RdK (fun _ => True) W k R l v ∧ l.length ≤ 140737488351232 := by
  rcases DataW.trod_slice hu h with ⟨rfl, _⟩ | ⟨ad, len, cap, elems, rest, n', hn', rfl, rfl, _, hlc, hcm, hel', helt, _, _⟩
  · exact ⟨[], _, rfl, rdK_none _ _ _ _, by simp⟩
  · have hlw : len ≤ 140737488351232 := by
      have h0 := hw ((elems.length + rest.length) * Try.prog.bytesOf el) (by simp [DataW.weights, hu])
      have h1 : (elems.length + rest.length) * 1 ≤ (elems.length + rest.length) * Try.prog.bytesOf el := Nat.mul_le_mul_left _ (of_decide_eq_true hby)
      have h2 : reachBytes = 140737488351232 := rfl
      omega
    rw [hc] at helt
    have hall : ∀ i, i < len → ∃ q : α × List Value, W.cells? 0 (ad.add (i * k)) k = some q.2 ∧ R q.1 q.2 := by
      intro i hi
      have h1 := helt i hi
      have hie : i < elems.length := by omega
      rw [List.getElem?_eq_getElem hie] at h1
      obtain ⟨cs', h2, h3⟩ := Option.bind_eq_some_iff.1 h1
      obtain ⟨a, ha⟩ := hel n' cs' _ hn' h3 (fun n hn => by
        refine hw n ?_
        simp only [DataW.weights, hu]
        exact List.mem_cons_of_mem _ (List.mem_append_left _ (weights_allD (List.mem_map_of_mem (List.getElem_mem hie)) n hn)))
      exact ⟨(a, cs'), h2, ha⟩
    obtain ⟨l, hll, hfy⟩ := pickD len hall
    refine ⟨l.map (·.1), _, rfl, ⟨some ad, cap, by simp [hll], by simpa [hll] using hlc, hcm, fun i hi => ?_⟩, by simpa [hll] using hlw⟩
    have hi' : i < l.length := by simpa using hi
    obtain ⟨_, q2, q3⟩ := World.cells?_some (hfy 0 (by omega)).1
    obtain ⟨_, g2, g3⟩ := World.cells?_some (hfy i hi').1
    have hs : ad = ⟨ad.block, ad.off, none⟩ := by
      have := q3 0 hk
      rw [Nat.zero_mul, show (ad.add 0).add 0 = ad.add 0 from by simp [Addr.add], List.getElem?_eq_getElem (by omega)] at this
      exact spot_noneD this
    generalize ad.block = b at hs
    generalize ad.off = off at hs
    subst hs
    have g4 : ∀ j u, (l[i]).2[j]? = some u → W.cell? ⟨b, off + i * k + j, none⟩ = some u := fun j u hj => by
      have hjl := (List.getElem?_eq_some_iff.1 hj).1
      have := g3 j (by omega)
      rw [add_plain, add_plain, hj] at this
      exact this
    refine ⟨b, off, (l[i]).2, rfl, trivial, ?_, g2, ?_, g4⟩
    · exact World.block_lt_of_cell? W _ (g4 0 _ (List.getElem?_eq_getElem (by omega)))
    · rw [List.getElem_map]
      exact (hfy i hi').2
theorem open_intsD {fuel : Nat} {cs : List Value} {x : DataW H × List MemPlace} (h : DataW.trod enc Try.prog W 0 (fun _ => true) true fuel 31 cs = some x) (hw : WtD 31 x.1) : ∃ (l : List Int) (v : Value), cs = [v] ∧ RdI W l v ∧ l.length ≤ 140737488351232 :=
  open_rowD (k := 1) (R := rIntD) Try.underlying31 (by kernel_rfl) (by decide) (by kernel_rfl) h hw (fun n' cs' y _ hy _ => by
    obtain ⟨k, rfl, _, _⟩ := DataW.trod_int Try.underlying3 hy
    exact ⟨k, rfl⟩)
theorem open_bytesD {fuel : Nat} {cs : List Value} {x : DataW H × List MemPlace} (h : DataW.trod enc Try.prog W 0 (fun _ => true) true fuel 30 cs = some x) (hw : WtD 30 x.1) : ∃ (bs : List Int) (v : Value), cs = [v] ∧ Rd W v bs ∧ (∀ b ∈ bs, 0 ≤ b ∧ b ≤ 255) ∧ bs.length ≤ 140737488351232 := by
  have hshape : cs = [.slice none 0 0] ∨ ∃ ad len cap, cs = [.slice (some ad) len cap] := by
    rcases DataW.trod_slice Try.underlying30 h with ⟨e, _⟩ | ⟨ad, len, cap, elems, rest, n', hn', e, _⟩
    · exact .inl e
    · exact .inr ⟨ad, len, cap, e⟩
  obtain ⟨l, v, rfl, h1, h2⟩ := open_rowD (k := 1) (R := fun (x : Int) cs => cs = [.int .u8 x] ∧ 0 ≤ x ∧ x ≤ 255) Try.underlying30 (by kernel_rfl) (by decide) (by kernel_rfl) h hw (fun n' cs' y _ hy _ => by
    obtain ⟨k, rfl, _, hk⟩ := DataW.trod_int Try.underlying5 hy
    have : 0 ≤ k ∧ k ≤ 255 := by simpa [Lit.wf, IntKind.min, IntKind.max, IntKind.signed, IntKind.bits] using hk
    exact ⟨k, rfl, this⟩)
  obtain ⟨h3, h4⟩ := RdK.bothD (R := fun (x : Int) cs => cs = [.int .u8 x]) (Q := fun x => 0 ≤ x ∧ x ≤ 255) h1
  obtain ⟨a, c, rfl, hl, hm, hc⟩ := h3
  refine ⟨l, _, rfl, ⟨a, c, rfl, hl, hm, fun e => ?_, fun y hy i hi => ?_⟩, h4, h2⟩
  · subst e
    rcases hshape with e | ⟨ad, len, cap, e⟩
    · simp only [List.cons.injEq, Value.slice.injEq, and_true, true_and] at e
      exact ⟨List.eq_nil_of_length_eq_zero e.1, e.2⟩
    · simp at e
  · obtain ⟨b, off, cs, e, _, _, _, e2, e3⟩ := hc i hi
    subst e2
    rw [e] at hy
    obtain rfl := Option.some.inj hy
    have := e3 0 _ rfl
    rw [Nat.mul_one, Nat.add_zero] at this
    rw [add_plain]
    simpa [List.getD, hi] using this
set_option maxRecDepth 100000 in
theorem open_op {fuel : Nat} {cs : List Value} {x : DataW H × List MemPlace} (h : DataW.trod enc Try.prog W 0 (fun _ => true) true fuel 33 cs = some x) (hw : WtD 33 x.1) : ∃ y : OpM, rOp W y cs ∧ WfO y := by
  obtain ⟨xs, n, _, rfl, hl, hlen, hf⟩ := DataW.trod_struct Try.underlying33 h
  have hc : Try.prog.cellsOf 33 = 6 := by kernel_rfl
  have cI : Try.prog.cellsOf 3 = 1 := by kernel_rfl
  have c5 : Try.prog.cellsOf 5 = 1 := by kernel_rfl
  have cb : Try.prog.cellsOf 30 = 1 := by kernel_rfl
  have cl : Try.prog.cellsOf 31 = 1 := by kernel_rfl
  rw [hc] at hl
  have f0 : DataW.trod enc Try.prog W 0 (fun _ => true) true n 3 ((cs.drop 0).take (Try.prog.cellsOf 3)) = xs[0]? := hf 0 _ rfl
  have f1 : DataW.trod enc Try.prog W 0 (fun _ => true) true n 3 ((cs.drop 1).take (Try.prog.cellsOf 3)) = xs[1]? := hf 1 _ rfl
  have f2 : DataW.trod enc Try.prog W 0 (fun _ => true) true n 3 ((cs.drop 2).take (Try.prog.cellsOf 3)) = xs[2]? := hf 2 _ rfl
  have f3 : DataW.trod enc Try.prog W 0 (fun _ => true) true n 5 ((cs.drop 3).take (Try.prog.cellsOf 5)) = xs[3]? := hf 3 _ rfl
  have f4 : DataW.trod enc Try.prog W 0 (fun _ => true) true n 30 ((cs.drop 4).take (Try.prog.cellsOf 30)) = xs[4]? := hf 4 _ rfl
  have f5 : DataW.trod enc Try.prog W 0 (fun _ => true) true n 31 ((cs.drop 5).take (Try.prog.cellsOf 31)) = xs[5]? := hf 5 _ rfl
  rw [cI] at f0 f1 f2
  rw [c5] at f3
  rw [cb] at f4
  rw [cl] at f5
  match cs, hl, xs, hlen with
  | [a, b, c, d, e, f], _, [y0, y1, y2, y3, y4, y5], _ =>
    have w4 := hw.field Try.underlying33 4 rfl rfl rfl
    have w5 := hw.field Try.underlying33 5 rfl rfl rfl
    simp only [List.drop_zero, List.take_succ_cons, List.take_zero, List.drop_succ_cons, List.getElem?_cons_zero, List.getElem?_cons_succ] at f0 f1 f2 f3 f4 f5
    obtain ⟨k0, e0, _, _⟩ := DataW.trod_int Try.underlying3 f0
    obtain ⟨k1, e1, _, u1⟩ := DataW.trod_int Try.underlying3 f1
    obtain ⟨k2, e2, _, u2⟩ := DataW.trod_int Try.underlying3 f2
    obtain ⟨k3, e3, _, u3⟩ := DataW.trod_int Try.underlying5 f3
    obtain ⟨bs, v4, e4, r4, b4, l4⟩ := open_bytesD f4 w4
    obtain ⟨ls, v5, e5, r5, l5⟩ := open_intsD f5 w5
    simp only [List.cons.injEq, and_true] at e0 e1 e2 e3 e4 e5
    subst e0 e1 e2 e3 e4 e5
    exact ⟨⟨k0, k1, k2, k3, bs, ls⟩, ⟨_, _, rfl, r4, r5⟩, ⟨u1, u2, by simpa [Lit.wf, IntKind.min, IntKind.max, IntKind.signed, IntKind.bits] using u3, b4, l4, l5⟩⟩
theorem open_ops {a : Option Addr} {len cap : Nat} {d : DataW H} {p : List MemPlace} (h : DataW.Trod enc Try.prog W 0 (fun _ => true) true 22 (.slice a len cap) d p) (hw : WtD 22 d) : ∃ l : List OpM, RdO W l (.slice a len cap) ∧ ∀ x ∈ l, WfO x := by
  obtain ⟨fuel, hf⟩ := h
  obtain ⟨l, v, e, h1, _⟩ := open_rowD (k := 6) (R := fun x cs => rOp W x cs ∧ WfO x) Try.underlying22 (by kernel_rfl) (by decide) (by kernel_rfl) hf hw (fun n' cs' y _ hy hwy => open_op hy hwy)
  have e' : v = .slice a len cap := by simpa [Value.cells] using e.symm
  subst e'
  obtain ⟨h3, h4⟩ := RdK.bothD h1
  exact ⟨l, h3, h4⟩
end
end Go.Proofs.Ytibmbbiipffooaa
