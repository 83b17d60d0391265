import Derived.Test.YtdificdnicdnnaaXhc02
import Derived.Test.YtdificdnicdnnaaXhc01
import Derived.Deep.RegionLaw
import Derived.Shelf.Strconv.Clone
import Derived.Test.YtdificdnicdnnaaRows
import Derived.Deep.Cut
import Derived.ProofKit
import Derived.OpenShut
import Derived.ShutString
import Derived.ChangeOld
import Derived.SizedLaws
import Derived.Below

/- The program's timers: the queue's Push. -/
namespace Go.Proofs.Ytdificdnicdnnaa
open Go.RowKit Go.Lib Go.Maps
set_option linter.unusedSimpArgs false
set_option linter.unusedVariables false
attribute [local go_sem ↓] Go.wp_at_zero Go.wp_at_succ

theorem Try.infoTm : (Try.prog.info? 56).map (fun i => (i.zero, i.size, i.bytes)) = some (some (.agg #[.string ByteArray.empty, .int .i64 0]), 2, 24) := by kernel_rfl
theorem inf_getT {t : TypeId} {z : Value} {a b : Nat} (h : (Try.prog.info? t).map (fun i => (i.zero, i.size, i.bytes)) = some (some z, a, b)) : ∃ i, Try.prog.info? t = some i ∧ i.zero = some z ∧ i.size = a ∧ i.bytes = b := by
  cases hq : Try.prog.info? t with
  | none => rw [hq] at h; cases h
  | some i =>
    rw [hq] at h
    simp only [Option.map_some, Option.some.injEq, Prod.mk.injEq] at h
    exact ⟨i, rfl, h.1, h.2.1, h.2.2⟩
theorem eqlT1 (b : Nat) (w : World) : (binOp .eql 34 (.map (some b)) (.map none)).run Try.prog w = .ok (.bool false) w := by kernel_rfl
theorem eqlT0 (w : World) : (binOp .eql 34 (.map none) (.map none)).run Try.prog w = .ok (.bool true) w := by kernel_rfl
theorem src_tm (t : TypeId) (ht : Try.prog.underlying t = some (.slice 56)) (wa : World) (x : Tm) : Src Try.prog 2 t (.slice (some ⟨wa.heap.size, 0, none⟩) 1 1) 1 (celT [x]) (wa.alloc (.cells #[.string x.1, .int .i64 x.2] 56)) := by
  refine Src.ofSlice _ ht _ 1 1 _ rfl (fun j u hj => ?_) (oc_T _)
  rw [add_plain, Nat.zero_add]
  have hB : Bn (wa.alloc (.cells #[.string x.1, .int .i64 x.2] 56)) wa.heap.size [.string x.1, .int .i64 x.2] := Bn.new wa [.string x.1, .int .i64 x.2] _ _ rfl
  exact (hB j u hj).1
theorem push_map {w : World} {X : Nat} {F : Nat → Prop} {Q : List Tm} {v : Value} {mb : Nat} (h : PT w X F Q v (some mb)) {x : Tm} (hx : ∀ i, i < Q.length → (tg Q i).1 ≠ x.1) (hs : x.1.size ≤ 1000) (hl : Q.length ≤ 1000) :
    ∃ w2, (Instr.mapUpdate 34 (.map (some mb)) (.string x.1) (.int .i64 (Q.length : Int))).run Try.prog w.drew = .ok () w2 ∧ Bn w2 X [v, .map (some mb)] ∧ w2.ownsRow 0 56 2 v Q.length (celT Q) ∧ MapT w2 (some mb) (Q ++ [x]) ∧
      Kf F w w2 ∧ ∀ k, k < w.heap.size → k ≠ mb → w2.heap[k]? = w.heap[k]? := by
  have hmb := h.mm mb rfl
  rcases h.m with ⟨e, _⟩ | ⟨b, D, e, hp, ho⟩
  · cases e
  cases e
  obtain ⟨w2, r2, ho2, ht2⟩ := (ho.drew).store (string_keyed Try.underlying9) Try.underlying34 (by unfold maxLen; omega) (val := .int .i64 (Q.length : Int)) (d := .held (.int .i64 (Q.length : Int))) (ps := []) (keyS hs) rfl
  have g2 := ht2.grown
  have bl : ∀ k, k < w.heap.size → k ≠ mb → w2.heap[k]? = w.heap[k]? := fun k hk hne => g2.block k hk (fun e => hne (Option.some.inj e))
  have hpl := hp.push hx
  have hom := ownsMap_size ho2
  rw [hpl.n] at hom
  refine ⟨w2, r2, h.c.blk (bl X h.lt hmb.2.1.symm), ownsRow_keep h.o (fun k hk => bl k (ownsRow_lt h.o k hk).2 (fun e => hmb.2.2 (by rw [hk, e]))), .inr ⟨mb, _, rfl, hpl, hom⟩, ?_, bl⟩
  exact ((Kf.refl F w).drew).trans (Kf.grown g2 (fun k hk => by have := Option.some.inj hk; subst this; exact hmb.1))
theorem celT_one (Q : List Tm) (x : Tm) : celT Q ++ celT [x] = celT (Q ++ [x]) := (celT_app _ _).symm
theorem push_fin {w w2 wb : World} {X : Nat} {F : Nat → Prop} {Q : List Tm} {v v' : Value} {mb : Nat} {x : Tm} (h : PT w X F Q v (some mb)) (hs : x.1.size ≤ 1000) (hB : Bn w2 X [v, .map (some mb)]) (hR : w2.ownsRow 0 56 2 v Q.length (celT Q)) (hM : MapT w2 (some mb) (Q ++ [x]))
    (hK : Kf F w w2) (hO : wb.ownsRow 0 56 2 v' (Q.length + 1) (celT Q ++ celT [x])) (hg : (w2.drew.alloc (.cells #[.string x.1, .int .i64 x.2] 56)).grownBy wb v.ownBlock)
    (hat : v'.ownBlock = v.ownBlock ∨ v'.ownBlock = some (w2.drew.alloc (.cells #[.string x.1, .int .i64 x.2] 56)).heap.size) : Bn wb X [v, .map (some mb)] ∧ PT (wb.setCell ⟨X, 0, none⟩ v') X (nF F w) (Q ++ [x]) v' (some mb) ∧ Kf F w (wb.setCell ⟨X, 0, none⟩ v') := by
  have hmb := h.mm mb rfl
  have hml := hM.lt mb rfl
  have hXl := hB.lt
  have sz : (w2.drew.alloc (.cells #[.string x.1, .int .i64 x.2] 56)).heap.size = w2.heap.size + 1 := by simp
  have al : Below w2.heap.size w2 (w2.drew.alloc (.cells #[.string x.1, .int .i64 x.2] 56)) := ((Below.refl w2.heap.size w2).drew).alloc (Nat.le_refl _) _
  have bl : ∀ k, k < w2.heap.size → v.ownBlock ≠ some k → wb.heap[k]? = w2.heap[k]? := fun k hk hne => (hg.block k (by rw [sz]; omega) (fun e => hne e.symm)).trans (al.block k hk)
  have hXv : v.ownBlock ≠ some X := fun e => (h.oo X e).2 rfl
  have hBb : Bn wb X [v, .map (some mb)] := hB.blk (bl X hXl hXv)
  have hsz : w.heap.size ≤ w2.heap.size := hK.size
  have hv' : ∀ g, v'.ownBlock = some g → nF F w g ∧ g ≠ X ∧ g ≠ mb := fun g hg' => by
    rcases hat with e | e
    · rw [e] at hg'
      exact ⟨.inl (h.oo g hg').1, (h.oo g hg').2, fun e2 => hmb.2.2 (by rw [hg', e2])⟩
    · rw [e, sz] at hg'
      have := Option.some.inj hg'
      exact ⟨.inr (by omega), by omega, by omega⟩
  have kb : Kf F w2 wb := (((Kf.refl F w2).drew).alloc _).trans (Kf.grown hg (fun k hk => (h.oo k hk).1))
  refine ⟨hBb, ⟨.inl h.x, hBb.set (i := 0) (by simp) v', ?_, fun g hg' => ⟨(hv' g hg').1, (hv' g hg').2.1⟩, ?_, fun b hb => ?_, fun y hy => ?_⟩, hK.trans (kb.set h.x _)⟩
  · rw [List.length_append, ← celT_one]
    exact ownsRow_keep hO (fun g hg' => Below.heap_setCell _ _ _ _ (fun e => (hv' g hg').2.1 e))
  · refine (hM.keep (fun b hb hlt => ?_) : MapT wb (some mb) (Q ++ [x])).keep (fun b hb hlt => ?_)
    · cases hb
      exact bl mb hml (fun e => hmb.2.2 e)
    · cases hb
      exact Below.heap_setCell _ _ _ _ (fun e => hmb.2.1 e)
  · cases hb
    exact ⟨.inl hmb.1, hmb.2.1, fun e => (hv' mb e).2.2 rfl⟩
  · rcases List.mem_append.1 hy with hy | hy
    · exact h.s y hy
    · rw [List.mem_singleton.1 hy]
      exact hs
theorem push_pre {w W : World} {X : Nat} {F : Nat → Prop} {Q : List Tm} {v : Value} {mb : Nat} {x : Tm} (h : PT W X (nF F w) Q v (some mb)) (hKw : Kf F w W) (hT : Bn W w.heap.size [.string x.1, .int .i64 x.2]) (hne : mb ≠ w.heap.size) (hx : ∀ i, i < Q.length → (tg Q i).1 ≠ x.1) (hs : x.1.size ≤ 1000) (hl : Q.length ≤ 1000) :
    ∃ w2, (Instr.mapUpdate 34 (.map (some mb)) (.string x.1) (.int .i64 (Q.length : Int))).run Try.prog W.drew = .ok () w2 ∧
      (W.drew.cell? ⟨X, 0, none⟩ = some v ∧ W.drew.cell? ⟨X, 1, none⟩ = some (.map (some mb)) ∧ W.drew.cell? ⟨w.heap.size, 0, none⟩ = some (.string x.1)) ∧
      (w2.cell? ⟨X, 0, none⟩ = some v ∧ w2.cell? ⟨X, 1, none⟩ = some (.map (some mb)) ∧ w2.cell? ⟨w.heap.size, 0, none⟩ = some (.string x.1)) ∧
      (w2.cell? ⟨w.heap.size, 1, none⟩ = some (.int .i64 x.2)) ∧ (w2.drew.alloc (.cells #[.string x.1, .int .i64 x.2] 56)).cell? ⟨X, 0, none⟩ = some v ∧ (w2.drew.alloc (.cells #[.string x.1, .int .i64 x.2] 56)).ownsRow 0 56 2 v Q.length (celT Q) ∧
      ∀ v' wb, wb.ownsRow 0 56 2 v' (Q.length + 1) (celT Q ++ celT [x]) → (w2.drew.alloc (.cells #[.string x.1, .int .i64 x.2] 56)).grownBy wb v.ownBlock →
        (v'.ownBlock = v.ownBlock ∨ v'.ownBlock = some (w2.drew.alloc (.cells #[.string x.1, .int .i64 x.2] 56)).heap.size) → Bn wb X [v, .map (some mb)] ∧ PT (wb.setCell ⟨X, 0, none⟩ v') X (nF F w) (Q ++ [x]) v' (some mb) ∧ Kf F w (wb.setCell ⟨X, 0, none⟩ v') := by
  obtain ⟨w2, r2, hB, hR, hM, hK, hbl⟩ := push_map h hx hs hl
  have hTl := hT.lt
  have hT2 : Bn w2 w.heap.size [.string x.1, .int .i64 x.2] := hT.blk (hbl _ hTl hne.symm)
  refine ⟨w2, r2, ⟨(h.c 0 _ rfl).1, (h.c 1 _ rfl).1, (hT 0 _ rfl).1⟩, ⟨(hB 0 _ rfl).1, (hB 1 _ rfl).1, (hT2 0 _ rfl).1⟩, (hT2 1 _ rfl).1, (((Below.refl w2.heap.size w2.drew).alloc (Nat.le_refl _) _).cell (p := ⟨X, 0, none⟩) hB.lt).trans (hB 0 _ rfl).1, hR.drew.alloc _, fun v' wb hO hg hat => ?_⟩
  obtain ⟨h1, h2, h3⟩ := push_fin h hs hB hR hM hK hO hg hat
  have hws : w.heap.size ≤ W.heap.size := hKw.size
  refine ⟨h1, h2.keep (fun _ _ _ => rfl) (fun j _ hj => ?_), hKw.transN h3⟩
  rcases hj with hj | hj
  · exact hj
  · exact .inr (Nat.le_trans hws hj)
set_option maxRecDepth 100000 in
set_option maxHeartbeats 4000000 in
theorem qPush_any {w : World} {X : Nat} {F : Nat → Prop} {Q : List Tm} {v : Value} {mv : Option Nat} (h : PT w X F Q v mv) {x : Tm} (hx : ∀ i, i < Q.length → (tg Q i).1 ≠ x.1) (hs : x.1.size ≤ 1000) (hl : Q.length ≤ 1000) :
    Calls Try.prog 50 #[.pointer (some ⟨X, 0, none⟩), .iface 56 (.agg #[.string x.1, .int .i64 x.2])] w fun e w' => e = .returned (.tuple #[]) ∧ (∃ v' mv', PT w' X (nF F w) (Q ++ [x]) v' mv') ∧ Kf F w w' := by
  have hta : ∀ (w : World) (v : Value), (Instr.typeAssert (.iface 56 v) 20 56 true).run Try.prog w = .ok (.tuple #[v, .bool true]) w := fun w v => by kernel_rfl
  obtain ⟨ii, hi, hi0, hi1, hi2⟩ := inf_getT Try.infoTm
  have hXl := h.lt
  have hal : Below w.heap.size w (w.alloc (.cells #[.string x.1, .int .i64 x.2] 56)) := (Below.refl _ _).alloc (Nat.le_refl _) _
  have hB := Bn.new w [.string x.1, .int .i64 x.2] 56 _ rfl
  obtain ⟨t0, u0⟩ := hB 0 _ rfl
  obtain ⟨t1, u1⟩ := hB 1 _ rfl
  obtain ⟨ra, rc, rfl, hrl, hrm⟩ := h.form
  have hP := h.keep (H := nF F w) (w' := w.alloc (.cells #[.string x.1, .int .i64 x.2] 56)) (fun b _ hlt => hal.block b hlt) (fun j _ hj => .inl hj)
  obtain ⟨X0, F0⟩ := hP.c 0 _ rfl
  obtain ⟨X1, F1⟩ := hP.c 1 _ rfl
  cases mv with
  | none =>
    have hq := eqlT0
    have hmm := @run_makeMap Try.prog
    have hQ : Q = [] := by
      rcases h.m with ⟨_, e⟩ | ⟨b, D, e, _⟩
      · exact e
      · cases e
    have hsz : (w.alloc (.cells #[.string x.1, .int .i64 x.2] 56)).heap.size = w.heap.size + 1 := by simp
    have hal2 : Below (w.heap.size + 1) (w.alloc (.cells #[.string x.1, .int .i64 x.2] 56)) ((w.alloc (.cells #[.string x.1, .int .i64 x.2] 56)).alloc (.map #[] 0)) := (Below.refl _ _).alloc (by simp) _
    have ho0 := World.ownsMap_made (w.alloc (.cells #[.string x.1, .int .i64 x.2] 56)) Try.prog 9 hR
    rw [hsz] at ho0
    have hbw := hal.trans (hal2.mono (by omega))
    have hP1 := h.keep (H := nF F w) (w' := (w.alloc (.cells #[.string x.1, .int .i64 x.2] 56)).alloc (.map #[] 0)) (fun b _ hlt => hbw.block b hlt) (fun j _ hj => .inl hj)
    have hB1 : Bn ((w.alloc (.cells #[.string x.1, .int .i64 x.2] 56)).alloc (.map #[] 0)) w.heap.size [.string x.1, .int .i64 x.2] := hB.blk (hal2.block _ (by omega))
    have hsz2 : ((w.alloc (.cells #[.string x.1, .int .i64 x.2] 56)).alloc (.map #[] 0)).heap.size = w.heap.size + 2 := by simp
    have hP2 : PT (((w.alloc (.cells #[.string x.1, .int .i64 x.2] 56)).alloc (.map #[] 0)).setCell ⟨X, 1, none⟩ (.map (some (w.heap.size + 1)))) X (nF F w) Q (.slice ra Q.length rc) (some (w.heap.size + 1)) := by
      refine ⟨hP1.x, hP1.c.set (i := 1) (by simp) _, ownsRow_keep hP1.o (fun g hg => Below.heap_setCell _ _ _ _ (fun e => (h.oo g hg).2 e)), hP1.oo, .inr ⟨_, .map [], rfl, ?_, ?_⟩, fun b hb => ?_, h.s⟩
      · rw [hQ]
        exact Pl.nil
      · rw [hQ]
        exact ho0.setCell (show w.heap.size + 1 ≠ X by omega) _
      · have := Option.some.inj hb
        exact ⟨.inr (by omega), by omega, fun e => by have := (ownsRow_lt h.o b e).2; omega⟩
    have hB2 : Bn (((w.alloc (.cells #[.string x.1, .int .i64 x.2] 56)).alloc (.map #[] 0)).setCell ⟨X, 1, none⟩ (.map (some (w.heap.size + 1)))) w.heap.size [.string x.1, .int .i64 x.2] := hB1.far (by omega) _
    have hKW := (Kf.of (F := F) hbw (Nat.le_refl _)).set h.x (i := 1) (.map (some (w.heap.size + 1)))
    rw [World.setCell_alloc_past _ _ _ _ (by simp; omega), World.setCell_alloc_past _ _ _ _ hXl] at hP2 hB2 hKW
    have C0 := (hP1.c 0 _ rfl).1
    have C1 := (hP1.c 1 _ rfl).1
    have D1 := (hP1.c 1 _ rfl).2
    obtain ⟨w2, r2, ⟨x0, x1, x2⟩, ⟨y0, y1, y2⟩, y3, yA, HR, HF⟩ := push_pre (w := w) hP2 hKW hB2 (by omega) hx hs hl
    have yB : (w2.alloc (.cells #[.string x.1, .int .i64 x.2] 56)).cell? ⟨X, 0, none⟩ = some (.slice ra Q.length rc) := yA
    have HR := hideD HR
    have HF := hideD HF
    have z0 : w2.drew.cell? ⟨X, 0, none⟩ = some (.slice ra Q.length rc) := y0
    have z1 : w2.drew.cell? ⟨X, 1, none⟩ = some (.map (some (w.heap.size + 1))) := y1
    have z2 : w2.drew.cell? ⟨w.heap.size, 0, none⟩ = some (.string x.1) := y2
    have z3 : w2.drew.cell? ⟨w.heap.size, 1, none⟩ = some (.int .i64 x.2) := y3
    clear h hP hB hal hal2 hP1 hP2 hB1 hB2 hbw ho0 hQ
    go_enter Try.func50, Try.ntmps50
    go_wp2
    go_region_held_law (fun w' => w'.cell? ⟨X, 0, none⟩ = some (.slice ra Q.length rc) ∧ w'.cell? ⟨X, 1, none⟩ = some (.map (some (w.heap.size + 1))) ∧ w'.cell? ⟨w.heap.size, 0, none⟩ = some (.string x.1))
      (first | (with_reducible exact ⟨x0, x1, x2⟩) | (with_reducible exact ⟨y0, y1, y2⟩) | (with_reducible exact ⟨z0, z1, z2⟩)) (fail)
    go_wp2
    go_region_law (first
    | (refine step_append_at (w2.drew.alloc (.cells #[.string x.1, .int .i64 x.2] 56)) (by rfl) (.tmp 37) (.tmp 39) 33 33 (by rfl) 0 56 ii (.agg #[.string ByteArray.empty, .int .i64 0]) 2 24 Try.underlying33 hi hi0 hi1 hi2 rfl (.slice ra Q.length rc) Q.length (celT Q) (by rfl) HR.out _ 1 (celT [x]) (by rfl) (src_tm 33 Try.underlying33 w2.drew x) 1 (.inr (by omega)) (Nat.le_refl _) (by unfold maxLen; omega) (by omega) ?_; intro vb wb hOb hgb hat; obtain ⟨hBb, hPb, hKb⟩ := HF.out vb wb hOb hgb hat; obtain ⟨va, vc, hvb, _, _⟩ := hPb.form; rw [List.length_append, List.length_singleton] at hvb; subst hvb; obtain ⟨z0, n0⟩ := hBb 0 _ rfl; have HPb := hideD (And.intro hPb hKb); clear hOb hgb hat hBb hPb hKb HF)
    | fail)
    all_goals (
      go_end0
      exact ⟨rfl, ⟨_, _, HPb.out.1⟩, HPb.out.2⟩)
  | some mb =>
    have hq := eqlT1 mb
    have hmb : mb < w.heap.size := h.m.lt mb rfl
    obtain ⟨w2, r2, ⟨x0, x1, x2⟩, ⟨y0, y1, y2⟩, y3, yA, HR, HF⟩ := push_pre (w := w) hP (Kf.of hal (Nat.le_refl _)) hB (by omega) hx hs hl
    have yB : (w2.alloc (.cells #[.string x.1, .int .i64 x.2] 56)).cell? ⟨X, 0, none⟩ = some (.slice ra Q.length rc) := yA
    have HR := hideD HR
    have HF := hideD HF
    have z0 : w2.drew.cell? ⟨X, 0, none⟩ = some (.slice ra Q.length rc) := y0
    have z1 : w2.drew.cell? ⟨X, 1, none⟩ = some (.map (some mb)) := y1
    have z2 : w2.drew.cell? ⟨w.heap.size, 0, none⟩ = some (.string x.1) := y2
    have z3 : w2.drew.cell? ⟨w.heap.size, 1, none⟩ = some (.int .i64 x.2) := y3
    clear h hP hB hal
    go_enter Try.func50, Try.ntmps50
    go_wp2
    go_region_held_law (fun w' => w'.cell? ⟨X, 0, none⟩ = some (.slice ra Q.length rc) ∧ w'.cell? ⟨X, 1, none⟩ = some (.map (some mb)) ∧ w'.cell? ⟨w.heap.size, 0, none⟩ = some (.string x.1))
      (first | (with_reducible exact ⟨x0, x1, x2⟩) | (with_reducible exact ⟨y0, y1, y2⟩) | (with_reducible exact ⟨z0, z1, z2⟩)) (fail)
    go_wp2
    go_region_law (first
    | (refine step_append_at (w2.drew.alloc (.cells #[.string x.1, .int .i64 x.2] 56)) (by rfl) (.tmp 37) (.tmp 39) 33 33 (by rfl) 0 56 ii (.agg #[.string ByteArray.empty, .int .i64 0]) 2 24 Try.underlying33 hi hi0 hi1 hi2 rfl (.slice ra Q.length rc) Q.length (celT Q) (by rfl) HR.out _ 1 (celT [x]) (by rfl) (src_tm 33 Try.underlying33 w2.drew x) 1 (.inr (by omega)) (Nat.le_refl _) (by unfold maxLen; omega) (by omega) ?_; intro vb wb hOb hgb hat; obtain ⟨hBb, hPb, hKb⟩ := HF.out vb wb hOb hgb hat; obtain ⟨va, vc, hvb, _, _⟩ := hPb.form; rw [List.length_append, List.length_singleton] at hvb; subst hvb; obtain ⟨z0, n0⟩ := hBb 0 _ rfl; have HPb := hideD (And.intro hPb hKb); clear hOb hgb hat hBb hPb hKb HF)
    | fail)
    all_goals (
      go_end0
      exact ⟨rfl, ⟨_, _, HPb.out.1⟩, HPb.out.2⟩)

def p3 (w : World) (X g n cap : Nat) : World := ((w.setCell ⟨g, n * 2, none⟩ (.string ⟨#[]⟩)).setCell ⟨g, n * 2 + 1, none⟩ (.int .i64 0)).setCell ⟨X, 0, none⟩ (.slice (some ⟨g, 0, none⟩) n cap)

def hqI (X : Nat) : Value := .iface 58 (.pointer (some ⟨X, 0, none⟩))
theorem mt_less (X : Nat) (w : World) : (method 189 58 (.pointer (some ⟨X, 0, none⟩)) "Less").run Try.prog w = .ok (48, .pointer (some ⟨X, 0, none⟩)) w := by kernel_rfl
theorem mt_swap (X : Nat) (w : World) : (method 189 58 (.pointer (some ⟨X, 0, none⟩)) "Swap").run Try.prog w = .ok (51, .pointer (some ⟨X, 0, none⟩)) w := by kernel_rfl
theorem mt_len (X : Nat) (w : World) : (method 189 58 (.pointer (some ⟨X, 0, none⟩)) "Len").run Try.prog w = .ok (28, .pointer (some ⟨X, 0, none⟩)) w := by kernel_rfl
theorem mt_push (X : Nat) (w : World) : (method 189 58 (.pointer (some ⟨X, 0, none⟩)) "Push").run Try.prog w = .ok (50, .pointer (some ⟨X, 0, none⟩)) w := by kernel_rfl
set_option maxRecDepth 100000 in
set_option maxHeartbeats 2000000 in
theorem hUp_any {w : World} {X : Nat} {F : Nat → Prop} {Q : List Tm} {v : Value} {mv : Option Nat} (h : PT w X F Q v mv) {j : Nat} (hj : j < Q.length) (hl : Q.length ≤ 1000) :
    Calls Try.prog 30 #[hqI X, .int .i64 (j : Int)] w fun e w' => e = .returned (.tuple #[]) ∧ PT w' X F (upQ Q j) v mv ∧ Kf F w w' := by
  obtain ⟨R, hR⟩ : ∃ R, upQ Q j = R := ⟨_, rfl⟩
  have hmt := mt_less X
  have hms := mt_swap X
  have H0 := hideD h
  have HL := hideD hl
  have HR := hideD hR
  rw [hR]
  clear h hR
  unfold hqI
  go_enter Try.func30, Try.ntmps30
  go_wp2
  go_loopw [1] (fun ix wr => ∃ (i : Nat) (P : List Tm), ix = .int .i64 (i : Int) ∧ i < P.length ∧ P.length = Q.length ∧ upQ P i = R ∧ PT wr X F P v mv ∧ Kf F w wr) (fun ix _ => (RowKit.intOf ix).toNat)
  case atStart => exact ⟨j, Q, rfl, hj, rfl, HR.out, H0.out, Kf.refl F w⟩
  case round =>
    obtain ⟨i, P, rfl, hi, hPl, hup, hP, hk⟩ := hrel
    clear hj hl H0 HR
    by_cases h0 : i = 0
    · subst h0
      have e : upQ P 0 = P := by rw [upQ]; simp
      rw [e] at hup
      subst hup
      have HH := hideD (And.intro hP hk)
      clear hP hk
      go_wp2
      go_end0
      exact ⟨rfl, HH.out⟩
    · have e : upQ P i = if tlt (tg P i) (tg P (par i)) then upQ (sw P (par i) i) (par i) else P := by rw [upQ, dif_pos (by omega)]
      rw [e] at hup
      clear e
      have hpi : par i < i := by unfold par; omega
      have hls := qLess_any hP hi (show par i < P.length by omega)
      have hw : wrap64 ((wrap64 ((i : Int) - 1)).tdiv 2) = (par i : Int) := by
        have : P.length ≤ 1000 := by rw [hPl]; exact HL.out
        have e1 : wrap64 ((i : Int) - 1) = ((i - 1 : Nat) : Int) := by unfold wrap64; omega
        rw [e1]
        have e2 : ((i - 1 : Nat) : Int).tdiv 2 = ((par i : Nat) : Int) := by unfold par; rw [Int.tdiv_eq_ediv_of_nonneg (by omega)]; omega
        rw [e2]
        unfold wrap64
        omega
      have k1 : ¬ (par i : Int) = (i : Int) := by omega
      by_cases ht : tlt (tg P i) (tg P (par i)) = true
      · rw [if_pos ht] at hup
        rw [ht] at hls
        have HUP := hideD hup
        have HP := hideD hP
        have HK := hideD hk
        have HI := hideD hi
        have HPI := hideD hpi
        have HPL := hideD hPl
        clear hup hP hk ht hi hpi hPl
        go_wp2_with (first
          | (go_at_call 48; refine hls.mono ?_; rintro e w1 ⟨rfl, hb1⟩; have hsp := qSwap_any (HP.out.on hb1) (a := par i) (b := i) (Nat.lt_trans HPI.out HI.out) HI.out (by rw [HPL.out]; exact HL.out); have HK1 := hideD (HK.out.trans (Kf.of hb1 (Nat.le_refl _))); clear hls hb1)
          | (go_at_call 51; refine hsp.mono ?_; rintro e w2 ⟨rfl, hP2, hK2⟩; have HP2 := hideD hP2; have HK2 := hideD (HK1.out.trans hK2); clear hsp hP2 hK2)
          | fail)
        go_roundw
        case rel => exact ⟨par i, sw P (par i) i, rfl, by rw [sw_len]; exact Nat.lt_trans HPI.out HI.out, by rw [sw_len]; exact HPL.out, HUP.out, HP2.out, HK2.out⟩
        case measure => have := HPI.out; simp [RowKit.intOf]; omega
      · rw [if_neg ht] at hup
        subst hup
        have ht' : tlt (tg P i) (tg P (par i)) = false := by simpa using ht
        rw [ht'] at hls
        have HP := hideD hP
        have HK := hideD hk
        clear hP hk ht ht' hi hpi hPl
        go_wp2_with (first
          | (go_at_call 48; refine hls.mono ?_; rintro e w1 ⟨rfl, hb1⟩; have HP1 := hideD (HP.out.on hb1); have HK1 := hideD (HK.out.trans (Kf.of hb1 (Nat.le_refl _))); clear hls hb1)
          | fail)
        go_end0
        exact ⟨rfl, HP1.out, HK1.out⟩


/-- Down, and up if it hasn't moved. -/
def dnup (Q : List Tm) (i n : Nat) : List Tm := if i < (dnQ Q i n).2 then (dnQ Q i n).1 else upQ (dnQ Q i n).1 i
def popQ (Q : List Tm) : List Tm := (dnQ (sw Q 0 (Q.length - 1)) 0 (Q.length - 1)).1.dropLast
theorem dn_len (Q : List Tm) (i n : Nat) : (dnQ Q i n).1.length = Q.length := (dn_snd n (n - i) i Q (Nat.le_refl _)).2.1
set_option maxRecDepth 100000 in
set_option maxHeartbeats 400000 in
theorem hPush_any {w : World} {X : Nat} {F : Nat → Prop} {Q : List Tm} {v : Value} {mv : Option Nat} (h : PT w X F Q v mv) {x : Tm} (hx : ∀ i, i < Q.length → (tg Q i).1 ≠ x.1) (hs : x.1.size ≤ 1000) (hl : Q.length ≤ 999) :
    Calls Try.prog 23 #[hqI X, .iface 56 (.agg #[.string x.1, .int .i64 x.2])] w fun e w' => e = .returned (.tuple #[]) ∧ (∃ v' mv', PT w' X (nF F w) (upQ (Q ++ [x]) Q.length) v' mv') ∧ Kf F w w' := by
  have hmp := mt_push X
  have hml := mt_len X
  have h1 := qPush_any h hx hs (by omega)
  have h2 := fun (wz : World) (v' : Value) (mv' : Option Nat) (hz : PT wz X (nF F w) (Q ++ [x]) v' mv') => And.intro (qLen_any hz) (hUp_any hz (j := Q.length) (by simp) (by simp; omega))
  simp only [List.length_append, List.length_singleton] at h2
  have hw : wrap64 (((Q.length + 1 : Nat) : Int) - 1) = (Q.length : Int) := by unfold wrap64; omega
  clear h
  unfold hqI at *
  generalize Q.length = n at *
  go_enter Try.func23, Try.ntmps23
  go_wp2_with (first
    | (go_at_call 50; refine h1.mono ?_; rintro e w1 ⟨rfl, ⟨v1, mv1, hP⟩, hK⟩; obtain ⟨h3, h4⟩ := h2 _ _ _ hP; have HK := hideD hK; clear h1 hP hK h2)
    | (go_at_call 28; refine h3.mono ?_; rintro e w2 ⟨rfl, rfl⟩; clear h3)
    | (go_at_call 30; refine h4.mono ?_; rintro e w3 ⟨rfl, hP, hK⟩; have HH := hideD (And.intro hP hK); clear h4 hP hK)
    | fail)
  go_end0
  exact ⟨rfl, ⟨_, _, HH.out.1⟩, HK.out.transN HH.out.2⟩
end Go.Proofs.Ytdificdnicdnnaa

/- What strings.Clone does: the same bytes. -/
namespace Go.Proofs.Ytdificdnicdnnaa
open Go.Shelf Go.RowKit Go.Lib
set_option linter.unusedSimpArgs false
set_option linter.unusedVariables false

def renC : Ren := { f := fun x => match x with | 316 => 31 | n => n, t := fun x => match x with | 9 => 9 | 3 => 3 | 4 => 4 | 37 => 71 | 0 => 0 | 127 => 72 | 5 => 5 | n => n, g := fun x => x }
theorem laysC : LaysM.n316 Try.prog renC :=
  { mixed := by kernel_rfl, f316 := Try.func31.trans (congrArg some (by kernel_rfl)),
    t0 := Try.underlying0, a0 := Try.isAgg0, z0 := Try.sizeOf0, v0 := Try.zeroValue0, t3 := Try.underlying3, a3 := Try.isAgg3, z3 := Try.sizeOf3, v3 := Try.zeroValue3, t4 := Try.underlying4, a4 := Try.isAgg4, z4 := Try.sizeOf4, v4 := Try.zeroValue4,
    t9 := Try.underlying9, a9 := Try.isAgg9, z9 := Try.sizeOf9, v9 := Try.zeroValue9, t37 := Try.underlying71, a37 := Try.isAgg71, z37 := Try.sizeOf71, v37 := Try.zeroValue71,
    t127 := Try.underlying72, a127 := Try.isAgg72, z127 := Try.sizeOf72, v127 := Try.zeroValue72, t5 := Try.underlying5, a5 := Try.isAgg5, z5 := Try.sizeOf5, v5 := Try.zeroValue5,
    i0 := by kernel_rfl, i3 := by kernel_rfl, i4 := by kernel_rfl, i5 := by kernel_rfl, i9 := by kernel_rfl, i37 := by kernel_rfl, i127 := by kernel_rfl }
theorem pClone_any (s : ByteArray) (w : World) (hs : s.size ≤ 140737488351232) :
    Calls Try.prog 24 #[.string s] w fun e w' => e = .returned (.string s) ∧ Below w.heap.size w w' := by
  have h1 : Calls Try.prog 31 #[.string s] w fun e w' => e = .returned (.string s) ∧ Below w.heap.size w w' := Any.stringslite_Clone laysC s w (by omega)
  go_enter Try.func24, Try.ntmps24
  go_wp2_with (first
    | (go_at_call 31; refine h1.mono ?_; rintro e w1 ⟨rfl, b1⟩))
  go_ret
  exact ⟨rfl, b1⟩

end Go.Proofs.Ytdificdnicdnnaa

/- The program's timers: New, Len, Next, find, Due, and what nil ones answer. -/
namespace Go.Proofs.Ytdificdnicdnnaa
open Go.RowKit Go.Lib Go.Maps
set_option linter.unusedSimpArgs false
set_option linter.unusedVariables false
attribute [local go_sem ↓] Go.wp_at_zero Go.wp_at_succ

theorem pt_new (w : World) : PT (w.alloc (.cells #[.slice none 0 0, .map none] 38)) w.heap.size (fun j => j = w.heap.size) [] (.slice none 0 0) none :=
  ⟨rfl, Bn.new w [.slice none 0 0, .map none] _ _ rfl, World.ownsRow_nil _ 0 56 2, fun g hg => (by simp [Value.ownBlock] at hg), .inl ⟨rfl, rfl⟩, fun b hb => (by cases hb), fun x hx => (by simp at hx)⟩
theorem tNew_any (w : World) : Calls Try.prog 10 #[] w fun e w' => e = .returned (.pointer (some ⟨w.heap.size, 0, none⟩)) ∧ PT w' w.heap.size (fun j => j = w.heap.size) [] (.slice none 0 0) none ∧ Below w.heap.size w w' := by
  have hp := hideD (pt_new w)
  go_enter Try.func10, Try.ntmps10
  go_wp2
  go_ret
  exact ⟨rfl, hp.out, (Below.refl _ _).alloc (Nat.le_refl _) _⟩
theorem tLen_any {w : World} {X : Nat} {F : Nat → Prop} {Q : List Tm} {v : Value} {mv : Option Nat} (h : PT w X F Q v mv) :
    Calls Try.prog 21 #[.pointer (some ⟨X, 0, none⟩)] w fun e w' => e = .returned (.int .i64 (Q.length : Int)) ∧ w' = w := by
  have h1 := qLen_any h
  clear h
  go_enter Try.func21, Try.ntmps21
  go_wp2_with (first
    | (go_at_call 28; refine h1.mono ?_; rintro e w1 ⟨rfl, rfl⟩; clear h1)
    | fail)
  go_ret
  exact ⟨rfl, rfl⟩
theorem tLen_nil (w : World) : Calls Try.prog 21 #[.pointer none] w fun e w' => e = .returned (.int .i64 0) ∧ w' = w := by
  go_enter Try.func21, Try.ntmps21
  go_wp2
  go_ret
  exact ⟨rfl, rfl⟩
theorem tNext_nil (w : World) : Calls Try.prog 20 #[.pointer none] w fun e w' => e = .returned (.tuple #[.int .i64 0, .bool false]) ∧ w' = w := by
  have h1 := tLen_nil w
  go_enter Try.func20, Try.ntmps20
  go_wp2_with (first
    | (go_at_call 21; refine h1.mono ?_; rintro e w1 ⟨rfl, rfl⟩; clear h1)
    | fail)
  go_ret2
  exact ⟨rfl, rfl⟩
theorem tFind_nil (w : World) (k : ByteArray) : Calls Try.prog 25 #[.pointer none, .string k] w fun e w' => e = .returned (.tuple #[.int .i64 0, .bool false]) ∧ w' = w := by
  go_enter Try.func25, Try.ntmps25
  go_wp2
  go_ret2
  exact ⟨rfl, rfl⟩
theorem tDue_nil (w : World) (k : ByteArray) : Calls Try.prog 18 #[.pointer none, .string k] w fun e w' => e = .returned (.tuple #[.int .i64 0, .bool false]) ∧ w' = w := by
  have h1 := tFind_nil w k
  go_enter Try.func18, Try.ntmps18
  go_wp2_with (first
    | (go_at_call 25; refine h1.mono ?_; rintro e w1 ⟨rfl, rfl⟩; clear h1)
    | fail)
  go_ret2
  exact ⟨rfl, rfl⟩
theorem tStop_nil (w : World) (k : ByteArray) : Calls Try.prog 13 #[.pointer none, .string k] w fun e w' => e = .returned (.bool false) ∧ w' = w := by
  have h1 := tFind_nil w k
  go_enter Try.func13, Try.ntmps13
  go_wp2_with (first
    | (go_at_call 25; refine h1.mono ?_; rintro e w1 ⟨rfl, rfl⟩; clear h1)
    | fail)
  go_ret
  exact ⟨rfl, rfl⟩
theorem tSet_nil (w : World) (k : ByteArray) (d : Int) : Calls Try.prog 11 #[.pointer none, .string k, .int .i64 d] w fun e w' => e = .returned (.tuple #[]) ∧ w' = w := by
  go_enter Try.func11, Try.ntmps11
  go_wp2
  refine bodyPost_ret (results_none rfl _ _ _) rfl ?_
  exact ⟨rfl, rfl⟩
theorem tTake_nil (w : World) (d : Int) : Calls Try.prog 16 #[.pointer none, .int .i64 d] w fun e w' => e = .returned (.slice none 0 0) ∧ w' = w := by
  have h1 := tNext_nil w
  go_enter Try.func16, Try.ntmps16
  go_wp2_with (first
    | (go_at_call 20; refine h1.mono ?_; rintro e w1 ⟨rfl, rfl⟩; clear h1)
    | fail)
  go_loopw [5, 6, 7] (fun ks d ok wr => ks = .slice none 0 0 ∧ ok = .bool false ∧ wr = w1) (fun _ _ _ _ => 0)
  case atStart => exact ⟨rfl, rfl, rfl⟩
  case round =>
    obtain ⟨rfl, rfl, rfl⟩ := hrel
    go_wp2
    go_ret
    exact ⟨rfl, rfl⟩

theorem PT.due {w : World} {X : Nat} {F : Nat → Prop} {Q : List Tm} {g cap : Nat} {mv : Option Nat} (h : PT w X F Q (.slice (some ⟨g, 0, none⟩) Q.length cap) mv) {i : Nat} (hi : i < Q.length) (d : Int) :
    PT (w.setCell ⟨g, i * 2 + 1, none⟩ (.int .i64 d)) X F (Q.set i ((tg Q i).1, d)) (.slice (some ⟨g, 0, none⟩) Q.length cap) mv ∧ Kf F w (w.setCell ⟨g, i * 2 + 1, none⟩ (.int .i64 d)) := by
  have hFg := h.oo g rfl
  obtain ⟨o1, n1⟩ := h.o.stored (i * 2 + 1) (.int .i64 d)
  rw [celT_setD d hi] at o1
  refine ⟨⟨h.x, h.c.far hFg.2 _, by rw [List.length_set]; exact o1, h.oo, ?_, h.mm, fun x hx => ?_⟩, (Kf.refl F w).set hFg.1 _⟩
  · rcases h.m with ⟨_, e⟩ | ⟨b, D, rfl, hp, ho⟩
    · rw [e] at hi
      simp at hi
    · refine .inr ⟨b, D, rfl, hp.due hi d, ?_⟩
      rw [List.length_set]
      exact ho.setCell (fun e => (h.mm b rfl).2.2 (by simp only [Value.ownBlock]; rw [e])) _
  · rcases List.mem_or_eq_of_mem_set hx with hx | rfl
    · exact h.s x hx
    · exact h.s (tg Q i) (tg_mem hi)
def setQ (Q : List Tm) (i : Nat) (d : Int) : List Tm := dnup (Q.set i ((tg Q i).1, d)) i Q.length
def addQ (Q : List Tm) (x : Tm) : List Tm := upQ (Q ++ [x]) Q.length
set_option maxRecDepth 100000 in
set_option maxHeartbeats 1000000 in
theorem tSet_miss {w : World} {X : Nat} {F : Nat → Prop} {Q : List Tm} {v : Value} {mv : Option Nat} (h : PT w X F Q v mv) {k : ByteArray} (hs : k.size ≤ 1000) (hn : ∀ i, i < Q.length → (tg Q i).1 ≠ k) (hl : Q.length ≤ 900) (d : Int) :
    Calls Try.prog 11 #[.pointer (some ⟨X, 0, none⟩), .string k, .int .i64 d] w fun e w' => e = .returned (.tuple #[]) ∧ (∃ v' mv', PT w' X (nF F w) (addQ Q (k, d)) v' mv') ∧ Kf F w w' := by
  have h1 := h.m.miss hs hn
  obtain ⟨c1, f1⟩ := h.c 1 _ rfl
  have h2 := pClone_any k w.drew (by omega)
  have h3 := fun (wz : World) (hb : Below w.heap.size w wz) => hPush_any (h.on hb) (x := (k, d)) hn hs (by omega)
  unfold hqI at h3
  unfold addQ
  clear h hn
  go_enter Try.func11, Try.ntmps11
  go_wp2
  go_region_held (fun w1 => True) (exact trivial) (first
    | (go_at_call 24; refine h2.mono ?_; rintro e w1 ⟨rfl, hb⟩; have hb1 := ((Below.refl w.heap.size w).drew).trans hb; have h4 := h3 _ hb1; have HB := hideD hb1; clear h2 h3 hb hb1)
    | (go_at_call 23; refine h4.mono ?_; rintro e w2 ⟨rfl, ⟨v2, mv2, hP⟩, hK⟩; have HP := hideD hP; have HK := hideD ((Kf.of (F := F) HB.out (Nat.le_refl _)).trans hK); clear h4 hP hK)
    | fail)
  all_goals (
    go_end0
    refine ⟨rfl, ⟨_, _, HP.out.keep (fun _ _ _ => rfl) (fun j _ hj => ?_)⟩, HK.out⟩
    rcases hj with hj | hj
    · exact .inl hj
    · exact .inr (Nat.le_trans HB.out.size hj))

theorem pop_len (Q : List Tm) : (popQ Q).length = Q.length - 1 := by unfold popQ; rw [List.length_dropLast, dn_len, sw_len]
/-- What Take answers, and what it leaves. -/
def takQ (now : Int) : Nat → List Tm → List ByteArray × List Tm
  | 0, Q => ([], Q)
  | n + 1, Q => if (tg Q 0).2 ≤ now then ((tg Q 0).1 :: (takQ now n (popQ Q)).1, (takQ now n (popQ Q)).2) else ([], Q)

/-- The document's timers in block Y: a row of its own. -/
structure QT (w : World) (Y : Nat) (G : Nat → Prop) (L : List Tm) (v : Value) : Prop where
  y : G Y
  c : Bn w Y [v]
  o : w.ownsRow 0 51 2 v L.length (celT L)
  oo : ∀ g, v.ownBlock = some g → G g ∧ g ≠ Y
theorem QT.keep {w w' : World} {Y : Nat} {G H : Nat → Prop} {L : List Tm} {v : Value} (h : QT w Y G L v) (hk : ∀ b, G b → b < w.heap.size → w'.heap[b]? = w.heap[b]?) (hGH : ∀ j, j < w.heap.size → G j → H j) : QT w' Y H L v :=
  ⟨hGH Y h.c.lt h.y, h.c.blk (hk Y h.y h.c.lt), ownsRow_keep h.o (fun g hg => hk g (h.oo g hg).1 (ownsRow_lt h.o g hg).2), fun g hg => ⟨hGH g (ownsRow_lt h.o g hg).2 (h.oo g hg).1, (h.oo g hg).2⟩⟩
theorem QT.on {w w' : World} {Y : Nat} {G : Nat → Prop} {L : List Tm} {v : Value} (h : QT w Y G L v) (hb : Below w.heap.size w w') : QT w' Y G L v := h.keep (fun b _ hlt => hb.block b hlt) (fun _ _ h => h)
theorem QT.at {w : World} {Y : Nat} {G : Nat → Prop} {L : List Tm} {v : Value} (h : QT w Y G L v) (hn : 0 < L.length) : ∃ g cap, v = .slice (some ⟨g, 0, none⟩) L.length cap ∧ L.length ≤ cap ∧ cap ≤ maxLen ∧ g < w.heap.size ∧
    (∀ j u, (celT L)[j]? = some u → w.cell? ⟨g, j, none⟩ = some u) := by
  have hc := fun g => World.ownsRow.cells h.o (g := g)
  rcases h.o.2 with ⟨_, h2⟩ | ⟨g, cap, cur, e, _, hg, h3, h4, _⟩
  · omega
  · refine ⟨g, cap, e, h3, h4, (Array.getElem?_eq_some_iff.1 hg).1, fun j u hj => ?_⟩
    have d0 := hc g (by rw [e]; rfl) j u hj
    rwa [add_plain, Nat.zero_add] at d0


def inN (x : Tm) (L : List Tm) : Nat := L.findIdx (fun y => !tlt y x)
def insQ (x : Tm) (L : List Tm) : List Tm := L.take (inN x L) ++ x :: L.drop (inN x L)
theorem inN_le (x : Tm) (L : List Tm) : inN x L ≤ L.length := List.findIdx_le_length
theorem inN_lt {x : Tm} {L : List Tm} {j : Nat} (h : j < inN x L) : tlt (tg L j) x = true := by
  have hl : j < L.length := Nat.lt_of_lt_of_le h (inN_le x L)
  have := List.not_of_lt_findIdx (p := fun y => !tlt y x) h
  rw [tg_of hl]
  simpa using this
theorem inN_at {x : Tm} {L : List Tm} (h : inN x L < L.length) : tlt (tg L (inN x L)) x = false := by
  have h2 : (!tlt (L[inN x L]) x) = true := List.findIdx_getElem (p := fun y => !tlt y x) (xs := L) (w := h)
  rw [tg_of h]
  cases hh : tlt (L[inN x L]) x
  · rfl
  · rw [hh] at h2
    cases h2

def takL (now : Int) : List Tm → List ByteArray × List Tm
  | [] => ([], [])
  | x :: r => if x.2 ≤ now then (x.1 :: (takL now r).1, (takL now r).2) else ([], x :: r)
end Go.Proofs.Ytdificdnicdnnaa

/- Timers as math: the heap and the sorted row tell the same. -/
namespace Go.Proofs.Ytdificdnicdnnaa
open Go.RowKit Go.Lib Go.Maps
set_option linter.unusedSimpArgs false
set_option linter.unusedVariables false

theorem tg_app_l {A B : List Tm} {k : Nat} (h : k < A.length) : tg (A ++ B) k = tg A k := by unfold tg; simp [List.getD_eq_getElem?_getD, List.getElem?_append_left h]
theorem tg_dropL {Q : List Tm} {k : Nat} (h : k < Q.length - 1) : tg Q.dropLast k = tg Q k := by
  unfold tg
  have h2 : k < Q.length := by omega
  simp [List.getD_eq_getElem?_getD, List.getElem?_dropLast, h, h2]
theorem tg_set {Q : List Tm} {i k : Nat} (x : Tm) (h : k ≠ i) : tg (Q.set i x) k = tg Q k := by
  unfold tg
  simp [List.getD_eq_getElem?_getD, List.getElem?_set, Ne.symm h]
theorem dropL_perm {Q : List Tm} {n : Nat} (h : Q.length = n + 1) : Q.Perm (tg Q n :: Q.dropLast) := by
  have hne : Q ≠ [] := by intro e; rw [e] at h; simp at h
  have e : tg Q n = Q.getLast hne := by
    rw [tg_of (show n < Q.length by omega), List.getLast_eq_getElem]
    congr 1
    omega
  have h2 : (Q.dropLast ++ [Q.getLast hne]).Perm (Q.getLast hne :: Q.dropLast) := by
    exact List.perm_append_comm (l₁ := Q.dropLast) (l₂ := [Q.getLast hne])
  rw [List.dropLast_concat_getLast hne] at h2
  rw [e]
  exact h2
theorem hp_dropL {Q : List Tm} {n : Nat} (hl : Q.length = n + 1) (h : Hp Q n) : Hp Q.dropLast n := fun k h0 hk => by
  have hp : par k < k := by unfold par; omega
  rw [tg_dropL (by omega), tg_dropL (by omega)]
  exact h k h0 hk
theorem dnup_ok {n i : Nat} {Q : List Tm} (h : Dn Q n i) (hn : i < n) (hl : n ≤ Q.length) : Hp (dnup Q i n) n ∧ (dnup Q i n).Perm Q ∧ ∀ k, n ≤ k → tg (dnup Q i n) k = tg Q k := by
  unfold dnup
  rcases dn_any h hn hl with ⟨e1, e2, hu⟩ | ⟨h1, h2, h3, h4, h5⟩
  · rw [if_neg (by omega), e1]
    obtain ⟨a, b, _, c⟩ := up_ok n i Q hu hn hl
    exact ⟨a, b, c⟩
  · rw [if_pos h1]
    exact ⟨h2, h3, h5⟩
theorem add_ok {Q : List Tm} (h : Hp Q Q.length) (x : Tm) : Hp (addQ Q x) (Q.length + 1) ∧ (addQ Q x).Perm (x :: Q) := by
  have hu : Up (Q ++ [x]) (Q.length + 1) Q.length := ⟨fun k h0 hk hne => by
    have hp : par k < k := by unfold par; omega
    rw [tg_app_l (by omega), tg_app_l (by omega)]
    exact h k h0 (by omega), fun _ k h0 hk hp => by
    have : par k < k := by unfold par; omega
    omega⟩
  obtain ⟨a, b, _, _⟩ := up_ok (Q.length + 1) Q.length (Q ++ [x]) hu (by omega) (by simp)
  exact ⟨a, b.trans (List.perm_append_comm (l₁ := Q) (l₂ := [x]))⟩
theorem dn_of {Q S : List Tm} {n i : Nat} (h : Hp Q n) (he : ∀ k, k < n → k ≠ i → tg S k = tg Q k) (hi : i < n) : Dn S n i := ⟨fun k h0 hk h1 h2 => by
    have hp : par k < k := by unfold par; omega
    rw [he k hk h1, he (par k) (by omega) h2]
    exact h k h0 hk, fun h0' k h0 hk hp => by
    have hp1 : par k < k := by unfold par; omega
    have hp2 : par i < i := by unfold par; omega
    rw [he k hk (by omega), he (par i) (by omega) (by omega)]
    have a := h k h0 hk
    rw [hp] at a
    exact tle_trans a (h i h0' hi)⟩
theorem set_ok {Q : List Tm} (h : Hp Q Q.length) {i : Nat} (hi : i < Q.length) (d : Int) : Hp (setQ Q i d) Q.length ∧ (setQ Q i d).Perm (Q.set i ((tg Q i).1, d)) := by
  obtain ⟨a, b, _⟩ := dnup_ok (dn_of (S := Q.set i ((tg Q i).1, d)) h (fun k _ hne => tg_set _ hne) hi) hi (by rw [List.length_set]; exact Nat.le_refl _)
  exact ⟨a, b⟩
theorem pop_ok {Q : List Tm} (h : Hp Q Q.length) (hi : 0 < Q.length) : Hp (popQ Q) (Q.length - 1) ∧ Q.Perm (tg Q 0 :: popQ Q) := by
  obtain ⟨n, hn⟩ : ∃ n, Q.length = n + 1 := ⟨Q.length - 1, by omega⟩
  unfold popQ
  rw [hn, Nat.add_sub_cancel]
  rw [hn] at h
  have ht := fun k => tg_sw (Q := Q) (a := 0) (b := n) (by omega) (by omega) k
  have hl : (dnQ (sw Q 0 n) 0 n).1.length = n + 1 := by rw [dn_len, sw_len]; exact hn
  by_cases h0 : n = 0
  · subst h0
    have e : (dnQ (sw Q 0 0) 0 0).1 = sw Q 0 0 := by rw [dnQ, dif_neg (by omega)]
    refine ⟨fun k _ hk => by omega, ?_⟩
    have := dropL_perm hl
    rw [e] at this ⊢
    rw [ht 0, if_pos rfl] at this
    exact ((sw_perm (by omega) (by omega)).symm).trans this
  · obtain ⟨a, b, _, c, _⟩ := dn_ok n n 0 (sw Q 0 n) (by omega) (dn_of (S := sw Q 0 n) (n := n) (fun k h0 hk => h k h0 (by omega)) (fun k hk hne => by rw [ht k, if_neg (by omega), if_neg hne]) (by omega)) (fun h => by omega) (by omega) (by rw [sw_len]; omega)
    refine ⟨hp_dropL hl a, ?_⟩
    have := dropL_perm hl
    rw [c n (Nat.le_refl _), ht n, if_pos rfl] at this
    exact ((b.trans (sw_perm (by omega) (by omega))).symm).trans this

/-- The heap holds what the sorted row holds. -/
structure Sq (L Q : List Tm) : Prop where
  s : L.Pairwise (fun x y => tlt x y = true)
  p : Q.Perm L
  k : (L.map (·.1)).Nodup
  h : Hp Q Q.length
theorem Sq.nil : Sq [] [] := ⟨List.Pairwise.nil, List.Perm.refl _, List.nodup_nil, fun k _ hk => absurd hk (by simp)⟩
theorem Sq.len {L Q : List Tm} (h : Sq L Q) : Q.length = L.length := h.p.length_eq
theorem Sq.first {L Q : List Tm} (h : Sq L Q) : tg Q 0 = tg L 0 := by
  cases L with
  | nil => rw [List.Perm.eq_nil h.p]
  | cons x L =>
    have hl := h.len
    simp only [List.length_cons] at hl
    have hQ : 0 < Q.length := by omega
    show tg Q 0 = x
    have hm : tg Q 0 ∈ x :: L := h.p.mem_iff.1 (tg_mem hQ)
    rcases List.mem_cons.1 hm with e | hm
    · exact e
    · have h1 := (List.pairwise_cons.1 h.s).1 _ hm
      have hx : x ∈ Q := h.p.mem_iff.2 List.mem_cons_self
      obtain ⟨i, hi, e⟩ := List.getElem_of_mem hx
      have h2 := hp_least h.h i hi
      rw [tg_of hi, e] at h2
      rw [h1] at h2
      cases h2
theorem nodup_at {Q : List Tm} (h : (Q.map (·.1)).Nodup) {i j : Nat} (hi : i < Q.length) (hj : j < Q.length) (he : (tg Q i).1 = (tg Q j).1) : i = j := by
  rw [tg_of hi, tg_of hj] at he
  have hp := List.pairwise_iff_getElem.1 h
  rcases Nat.lt_trichotomy i j with hlt | e | hlt
  · exact absurd (by rw [List.getElem_map, List.getElem_map]; exact he) (hp i j (by simpa using hi) (by simpa using hj) hlt)
  · exact e
  · exact absurd (by rw [List.getElem_map, List.getElem_map]; exact he.symm) (hp j i (by simpa using hj) (by simpa using hi) hlt)
/-- A key is in both, or in neither. -/
theorem Sq.find {L Q : List Tm} (h : Sq L Q) (k : ByteArray) : ((∀ i, i < Q.length → (tg Q i).1 ≠ k) ∧ ∀ i, i < L.length → (tg L i).1 ≠ k) ∨
    ∃ i j, i < Q.length ∧ j < L.length ∧ (tg Q i).1 = k ∧ tg L j = tg Q i ∧ ∀ j', j' < j → (tg L j').1 ≠ k := by
  by_cases hx : ∃ i, i < Q.length ∧ (tg Q i).1 = k
  · obtain ⟨i, hi, hk⟩ := hx
    obtain ⟨j, hj, e⟩ := List.getElem_of_mem (h.p.mem_iff.1 (tg_mem hi))
    refine .inr ⟨i, j, hi, hj, hk, by rw [tg_of hj, e], fun j' hj' e' => ?_⟩
    have := nodup_at h.k (i := j') (j := j) (by omega) hj (by rw [e', tg_of hj, e, hk])
    omega
  · refine .inl ⟨fun i hi e => hx ⟨i, hi, e⟩, fun j hj e => ?_⟩
    obtain ⟨i, hi, e2⟩ := List.getElem_of_mem (h.p.mem_iff.2 (tg_mem hj))
    exact hx ⟨i, hi, by rw [tg_of hi, e2, e]⟩
theorem del_perm {L : List Tm} {j : Nat} (hj : j < L.length) : L.Perm (tg L j :: (L.take j ++ L.drop (j + 1))) := by
  rw [tg_of hj]
  have e : L = L.take j ++ L[j] :: L.drop (j + 1) := by rw [← List.drop_eq_getElem_cons hj, List.take_append_drop]
  exact (List.Perm.of_eq e).trans List.perm_middle
theorem del_sub (L : List Tm) (j : Nat) : (L.take j ++ L.drop (j + 1)).Sublist L := by
  rw [← List.eraseIdx_eq_take_drop_succ]
  exact List.eraseIdx_sublist L j
theorem ins_perm (x : Tm) (L : List Tm) : (insQ x L).Perm (x :: L) := by
  unfold insQ
  have := List.perm_middle (a := x) (l₁ := L.take (inN x L)) (l₂ := L.drop (inN x L))
  rwa [List.take_append_drop] at this
theorem ins_sort {x : Tm} {L : List Tm} (h : L.Pairwise (fun x y => tlt x y = true)) (hx : ∀ y ∈ L, y.1 ≠ x.1) : (insQ x L).Pairwise (fun x y => tlt x y = true) := by
  unfold insQ
  have h0 := h
  rw [← List.take_append_drop (inN x L) L, List.pairwise_append] at h0
  obtain ⟨h1, h2, h3⟩ := h0
  have hb : ∀ b ∈ L.drop (inN x L), tlt x b = true := fun b hb => by
    have hlt : inN x L < L.length := by
      rcases Nat.lt_or_ge (inN x L) L.length with h | h
      · exact h
      · rw [List.drop_eq_nil_of_le h] at hb
        cases hb
    have hat := inN_at hlt
    have hxn : tlt x (tg L (inN x L)) = true := by
      cases hh : tlt x (tg L (inN x L))
      · have := tlt_tot hat hh
        exact absurd (congrArg Prod.fst this) (hx _ (tg_mem hlt))
      · rfl
    rw [List.drop_eq_getElem_cons hlt] at hb h2
    rcases List.mem_cons.1 hb with rfl | hb
    · rwa [tg_of hlt] at hxn
    · have := (List.pairwise_cons.1 h2).1 b hb
      rw [tg_of hlt] at hxn
      exact tlt_trans hxn this
  refine List.pairwise_append.2 ⟨h1, List.pairwise_cons.2 ⟨hb, h2⟩, fun a ha b hb' => ?_⟩
  rcases List.mem_cons.1 hb' with rfl | hb'
  · obtain ⟨j, hj, rfl⟩ := List.getElem_of_mem ha
    rw [List.length_take] at hj
    have := inN_lt (x := b) (L := L) (j := j) (by omega)
    rw [tg_of (by omega)] at this
    simpa using this
  · exact h3 a ha b hb'
theorem ins_nodup {x : Tm} {L : List Tm} (h : (L.map (·.1)).Nodup) (hx : ∀ y ∈ L, y.1 ≠ x.1) : ((insQ x L).map (·.1)).Nodup := by
  refine ((ins_perm x L).map _).nodup_iff.2 ?_
  rw [List.map_cons, List.nodup_cons]
  refine ⟨fun hm => ?_, h⟩
  obtain ⟨y, hy, e⟩ := List.mem_map.1 hm
  exact hx y hy e
theorem Sq.add {L Q : List Tm} (h : Sq L Q) {x : Tm} (hx : ∀ i, i < L.length → (tg L i).1 ≠ x.1) : Sq (insQ x L) (addQ Q x) := by
  have hx' : ∀ y ∈ L, y.1 ≠ x.1 := fun y hy => by
    obtain ⟨i, hi, rfl⟩ := List.getElem_of_mem hy
    rw [← tg_of hi]
    exact hx i hi
  obtain ⟨a, b⟩ := add_ok h.h x
  have hl : (addQ Q x).length = Q.length + 1 := by rw [b.length_eq]; rfl
  exact ⟨ins_sort h.s hx', (b.trans (h.p.cons x)).trans (ins_perm x L).symm, ins_nodup h.k hx', by rw [hl]; exact a⟩
theorem set_perm2 {Q : List Tm} {i : Nat} (hi : i < Q.length) (x : Tm) : (tg Q i :: Q.set i x).Perm (x :: Q) := by
  have e : Q.set i x = Q.take i ++ x :: Q.drop (i + 1) := by rw [List.set_eq_take_append_cons_drop, if_pos hi]
  rw [e]
  have h1 : (Q.take i ++ x :: Q.drop (i + 1)).Perm (x :: (Q.take i ++ Q.drop (i + 1))) := List.perm_middle
  have h2 := del_perm hi
  exact ((h1.cons (tg Q i)).trans (List.Perm.swap _ _ _)).trans (h2.symm.cons x)
theorem Sq.due {L Q : List Tm} (h : Sq L Q) {i j : Nat} (hi : i < Q.length) (hj : j < L.length) (he : tg L j = tg Q i) (d : Int) : Sq (insQ ((tg Q i).1, d) (L.take j ++ L.drop (j + 1))) (setQ Q i d) := by
  obtain ⟨a, b⟩ := set_ok h.h hi d
  have hd := del_perm hj
  have hnd := ((hd.map (·.1)).nodup_iff.1 h.k)
  rw [List.map_cons, List.nodup_cons] at hnd
  have hx : ∀ y ∈ L.take j ++ L.drop (j + 1), y.1 ≠ ((tg Q i).1, d).1 := fun y hy e => hnd.1 (by rw [he]; exact List.mem_map.2 ⟨y, hy, e⟩)
  have hl : (setQ Q i d).length = Q.length := by rw [b.length_eq, List.length_set]
  refine ⟨ins_sort (h.s.sublist (del_sub L j)) hx, ?_, ins_nodup hnd.2 hx, by rw [hl]; exact a⟩
  refine b.trans (List.Perm.trans ?_ (ins_perm _ _).symm)
  have h1 := set_perm2 hi ((tg Q i).1, d)
  have h2 := (h1.trans (h.p.cons _)).trans (hd.cons _)
  rw [he] at h2
  exact (h2.trans (List.Perm.swap _ _ _)).cons_inv
theorem Sq.pop {x : Tm} {L Q : List Tm} (h : Sq (x :: L) Q) : Sq L (popQ Q) := by
  have hl := h.len
  simp only [List.length_cons] at hl
  obtain ⟨a, b⟩ := pop_ok h.h (by omega)
  have hf : tg Q 0 = x := h.first
  refine ⟨(List.pairwise_cons.1 h.s).2, ?_, (List.nodup_cons.1 h.k).2, by rw [pop_len]; exact a⟩
  rw [hf] at b
  exact (b.symm.trans h.p).cons_inv
theorem Sq.take (now : Int) : ∀ {L Q : List Tm}, Sq L Q → (takQ now Q.length Q).1 = (takL now L).1 ∧ Sq (takL now L).2 (takQ now Q.length Q).2
  | [], Q, h => by
    have : Q = [] := List.Perm.eq_nil h.p
    subst this
    exact ⟨rfl, h⟩
  | x :: L, Q, h => by
    have hl := h.len
    simp only [List.length_cons] at hl
    have hf : tg Q 0 = x := h.first
    have ih := Sq.take now h.pop
    rw [pop_len, hl, Nat.add_sub_cancel] at ih
    rw [hl]
    unfold takQ takL
    rw [hf]
    by_cases hd : x.2 ≤ now
    · rw [if_pos hd, if_pos hd]
      exact ⟨by rw [ih.1], ih.2⟩
    · rw [if_neg hd, if_neg hd]
      exact ⟨rfl, h⟩
end Go.Proofs.Ytdificdnicdnnaa

/- Delays; awake. -/
namespace Go.Proofs.Ytdificdnicdnnaa
open Go.RowKit Go.Lib Go.Maps
set_option linter.unusedSimpArgs false
set_option linter.unusedVariables false
attribute [local go_sem ↓] Go.wp_at_zero Go.wp_at_succ

def dly (a : Int) : Int := if a < 1 then 0 else if a = 1 then 2 else if a = 2 then 4 else if a = 3 then 8 else if a = 4 then 16 else if a = 5 then 32 else 40
def pwtDelay (j : Nat) : Int := match j with
    | 0 => 2
    | 1 => 4
    | 2 => 8
    | 3 => 16
    | 4 => 32
    | _ => 64
set_option maxHeartbeats 1000000 in
theorem tDelay_any (w : World) (a : Int) : Calls Try.prog 6 #[.int .i64 a] w fun e w' => e = .returned (.int .i64 (dly a)) ∧ w' = w := by
  by_cases h1 : a < 1
  · have e : dly a = 0 := if_pos h1
    rw [e]
    clear e
    go_enter Try.func6, Try.ntmps6
    go_wp2
    go_ret
    exact ⟨rfl, rfl⟩
  obtain ⟨D, hD⟩ : ∃ D, dly a = D := ⟨_, rfl⟩
  rw [hD]
  have HD := hideD hD
  clear hD
  go_enter Try.func6, Try.ntmps6
  go_wp2
  go_loopw [3, 4] (fun dv nv wr => ∃ j : Nat, j ≤ 5 ∧ dv = .int .i64 (pwtDelay j) ∧ nv = .int .i64 ((j : Int) + 1) ∧ (j = 0 ∨ (j : Int) + 1 ≤ a) ∧ w = wr) (fun _ nv _ => 7 - (RowKit.intOf nv).toNat)
  case atStart => exact ⟨0, by omega, rfl, rfl, .inl rfl, by first | rfl | trivial⟩
  case round =>
    obtain ⟨j, hj, rfl, rfl, hja, rfl⟩ := hrel
    have hc : j = 0 ∨ j = 1 ∨ j = 2 ∨ j = 3 ∨ j = 4 ∨ j = 5 := by omega
    unfold pwtDelay
    rcases hc with rfl | rfl | rfl | rfl | rfl | rfl
    · by_cases ha : (0 : Int) + 1 < a
      · have ha2 : (1 : Int) < a := by omega
        go_wp2
        go_roundw
        case rel => exact ⟨1, by omega, rfl, rfl, .inr (by omega), by first | rfl | trivial⟩
        case measure => simp [RowKit.intOf]
      · have ha2 : ¬ (1 : Int) < a := by omega
        have e : a = 1 := by omega
        subst e
        go_wp2
        go_ret
        exact ⟨by rw [← HD.out]; rfl, by first | rfl | trivial⟩
    · by_cases ha : (1 : Int) + 1 < a
      · have ha2 : (2 : Int) < a := by omega
        go_wp2
        go_roundw
        case rel => exact ⟨2, by omega, rfl, rfl, .inr (by omega), by first | rfl | trivial⟩
        case measure => simp [RowKit.intOf]
      · have ha2 : ¬ (2 : Int) < a := by omega
        have e : a = 2 := by omega
        subst e
        go_wp2
        go_ret
        exact ⟨by rw [← HD.out]; rfl, by first | rfl | trivial⟩
    · by_cases ha : (2 : Int) + 1 < a
      · have ha2 : (3 : Int) < a := by omega
        go_wp2
        go_roundw
        case rel => exact ⟨3, by omega, rfl, rfl, .inr (by omega), by first | rfl | trivial⟩
        case measure => simp [RowKit.intOf]
      · have ha2 : ¬ (3 : Int) < a := by omega
        have e : a = 3 := by omega
        subst e
        go_wp2
        go_ret
        exact ⟨by rw [← HD.out]; rfl, by first | rfl | trivial⟩
    · by_cases ha : (3 : Int) + 1 < a
      · have ha2 : (4 : Int) < a := by omega
        go_wp2
        go_roundw
        case rel => exact ⟨4, by omega, rfl, rfl, .inr (by omega), by first | rfl | trivial⟩
        case measure => simp [RowKit.intOf]
      · have ha2 : ¬ (4 : Int) < a := by omega
        have e : a = 4 := by omega
        subst e
        go_wp2
        go_ret
        exact ⟨by rw [← HD.out]; rfl, by first | rfl | trivial⟩
    · by_cases ha : (4 : Int) + 1 < a
      · have ha2 : (5 : Int) < a := by omega
        go_wp2
        go_roundw
        case rel => exact ⟨5, by omega, rfl, rfl, .inr (by omega), by first | rfl | trivial⟩
        case measure => simp [RowKit.intOf]
      · have ha2 : ¬ (5 : Int) < a := by omega
        have e : a = 5 := by omega
        subst e
        go_wp2
        go_ret
        exact ⟨by rw [← HD.out]; rfl, by first | rfl | trivial⟩
    · have e : dly a = 40 := by
        unfold dly
        rw [if_neg (by omega), if_neg (by omega), if_neg (by omega), if_neg (by omega), if_neg (by omega), if_neg (by omega)]
      have HE := hideD e
      clear e
      by_cases ha : (6 : Int) < a
      · go_wp2
        go_ret
        exact ⟨by (first | (rw [← HD.out, HE.out]; done) | (rw [← HD.out, HE.out]; rfl)), by first | rfl | trivial⟩
      · go_wp2
        go_ret
        exact ⟨by (first | (rw [← HD.out, HE.out]; done) | (rw [← HD.out, HE.out]; rfl)), by first | rfl | trivial⟩
def pwrDelay (j : Nat) : Int := match j with
    | 0 => 2
    | 1 => 4
    | 2 => 8
    | 3 => 16
    | 4 => 32
    | _ => 40
set_option maxHeartbeats 1000000 in
theorem rDelay_any (w : World) (a : Int) : Calls Try.prog 8 #[.int .i64 a] w fun e w' => e = .returned (.int .i64 (dly a)) ∧ w' = w := by
  by_cases h1 : a < 1
  · have e : dly a = 0 := if_pos h1
    rw [e]
    clear e
    go_enter Try.func8, Try.ntmps8
    go_wp2
    go_ret
    exact ⟨rfl, rfl⟩
  obtain ⟨D, hD⟩ : ∃ D, dly a = D := ⟨_, rfl⟩
  rw [hD]
  have HD := hideD hD
  clear hD
  go_enter Try.func8, Try.ntmps8
  go_wp2
  go_loopw [3, 4] (fun dv nv wr => ∃ j : Nat, j ≤ 5 ∧ dv = .int .i64 (pwrDelay j) ∧ nv = .int .i64 ((j : Int) + 1) ∧ (j = 0 ∨ (j : Int) + 1 ≤ a) ∧ w = wr) (fun _ nv _ => 7 - (RowKit.intOf nv).toNat)
  case atStart => exact ⟨0, by omega, rfl, rfl, .inl rfl, by first | rfl | trivial⟩
  case round =>
    obtain ⟨j, hj, rfl, rfl, hja, rfl⟩ := hrel
    have hc : j = 0 ∨ j = 1 ∨ j = 2 ∨ j = 3 ∨ j = 4 ∨ j = 5 := by omega
    unfold pwrDelay
    rcases hc with rfl | rfl | rfl | rfl | rfl | rfl
    · by_cases ha : (0 : Int) + 1 < a
      · have ha2 : (1 : Int) < a := by omega
        go_wp2
        go_roundw
        case rel => exact ⟨1, by omega, rfl, rfl, .inr (by omega), by first | rfl | trivial⟩
        case measure => simp [RowKit.intOf]
      · have ha2 : ¬ (1 : Int) < a := by omega
        have e : a = 1 := by omega
        subst e
        go_wp2
        go_ret
        exact ⟨by rw [← HD.out]; rfl, by first | rfl | trivial⟩
    · by_cases ha : (1 : Int) + 1 < a
      · have ha2 : (2 : Int) < a := by omega
        go_wp2
        go_roundw
        case rel => exact ⟨2, by omega, rfl, rfl, .inr (by omega), by first | rfl | trivial⟩
        case measure => simp [RowKit.intOf]
      · have ha2 : ¬ (2 : Int) < a := by omega
        have e : a = 2 := by omega
        subst e
        go_wp2
        go_ret
        exact ⟨by rw [← HD.out]; rfl, by first | rfl | trivial⟩
    · by_cases ha : (2 : Int) + 1 < a
      · have ha2 : (3 : Int) < a := by omega
        go_wp2
        go_roundw
        case rel => exact ⟨3, by omega, rfl, rfl, .inr (by omega), by first | rfl | trivial⟩
        case measure => simp [RowKit.intOf]
      · have ha2 : ¬ (3 : Int) < a := by omega
        have e : a = 3 := by omega
        subst e
        go_wp2
        go_ret
        exact ⟨by rw [← HD.out]; rfl, by first | rfl | trivial⟩
    · by_cases ha : (3 : Int) + 1 < a
      · have ha2 : (4 : Int) < a := by omega
        go_wp2
        go_roundw
        case rel => exact ⟨4, by omega, rfl, rfl, .inr (by omega), by first | rfl | trivial⟩
        case measure => simp [RowKit.intOf]
      · have ha2 : ¬ (4 : Int) < a := by omega
        have e : a = 4 := by omega
        subst e
        go_wp2
        go_ret
        exact ⟨by rw [← HD.out]; rfl, by first | rfl | trivial⟩
    · by_cases ha : (4 : Int) + 1 < a
      · have ha2 : (5 : Int) < a := by omega
        go_wp2
        go_roundw
        case rel => exact ⟨5, by omega, rfl, rfl, .inr (by omega), by first | rfl | trivial⟩
        case measure => simp [RowKit.intOf]
      · have ha2 : ¬ (5 : Int) < a := by omega
        have e : a = 5 := by omega
        subst e
        go_wp2
        go_ret
        exact ⟨by rw [← HD.out]; rfl, by first | rfl | trivial⟩
    · have e : dly a = 40 := by
        unfold dly
        rw [if_neg (by omega), if_neg (by omega), if_neg (by omega), if_neg (by omega), if_neg (by omega), if_neg (by omega)]
      have HE := hideD e
      clear e
      by_cases ha : (6 : Int) < a
      · go_wp2
        go_ret
        exact ⟨by (first | (rw [← HD.out, HE.out]; done) | (rw [← HD.out, HE.out]; rfl)), by first | rfl | trivial⟩
      · go_wp2
        go_ret
        exact ⟨by (first | (rw [← HD.out, HE.out]; done) | (rw [← HD.out, HE.out]; rfl)), by first | rfl | trivial⟩
theorem hup1 (x : Tm) : addQ [] x = [x] := by
  unfold addQ
  rw [upQ]
  simp
def keyA : ByteArray := ⟨#[97]⟩
set_option maxHeartbeats 1000000 in
theorem tAwake_any (w : World) : Calls Try.prog 7 #[] w fun e w' => e = .returned (.bool true) ∧ Below w.heap.size w w' := by
  have h1 := tNew_any w
  have h2 := fun (wz : World) (hz : PT wz w.heap.size (fun j => j = w.heap.size) [] (.slice none 0 0) none) => tSet_miss hz (k := keyA) (by decide) (fun i hi => absurd hi (by simp)) (by simp) 5
  have h3 := fun (wz : World) (v : Value) (mv : Option Nat) (F : Nat → Prop) (hz : PT wz w.heap.size F (addQ [] (keyA, 5)) v mv) => tLen_any hz
  rw [hup1] at h3
  have h4 := fun wz => tDelay_any wz 2
  rw [show dly 2 = 4 from rfl] at h4
  unfold keyA at h2 h3
  go_enter Try.func7, Try.ntmps7
  go_wp2_with (first
    | (go_at_call 10; refine h1.mono ?_; rintro e w1 ⟨rfl, hP, hb⟩; have h2 := h2 _ hP; have HB := hideD hb; have HS := hideD hP.lt; clear h1 hP hb)
    | (go_at_call 11; refine h2.mono ?_; rintro e w2 ⟨rfl, ⟨v, mv, hP⟩, hK⟩; rw [show (⟨#[97]⟩ : ByteArray) = keyA from rfl, hup1] at hP; unfold keyA at hP; have h3 := h3 _ _ _ _ hP; have HK := hideD hK; clear h2 hP hK)
    | (go_at_call 21; refine h3.mono ?_; rintro e w3 ⟨rfl, rfl⟩; clear h3)
    | (go_at_call 6; refine (h4 _).mono ?_; rintro e w4 ⟨rfl, rfl⟩; clear h4)
    | fail)
  go_ret
  exact ⟨rfl, HB.out.trans (HK.out.below (fun j hj => (by have hj : j = w.heap.size := hj; omega)) HB.out.size)⟩

set_option maxHeartbeats 1000000 in
theorem timersNil_walk {w : World} (k : ByteArray) (_hk : k.size ≤ 140737488351232) (d : Int) (_hd : (Lit.int .i64 d).wf = true) : Calls Try.prog 5 #[.string k, .int .i64 d] w fun e w' => e = .returned (.bool true) ∧ Below w.heap.size w w' := by
  have h1 := tAwake_any w
  have h2 := fun wz => tSet_nil wz k d
  have h3 := fun wz => tDue_nil wz k
  have h4 := fun wz => tNext_nil wz
  have h5 := fun wz => tLen_nil wz
  have h6 := fun wz => tStop_nil wz k
  have h7 := fun wz => tTake_nil wz d
  go_enter Try.func5, Try.ntmps5
  go_wp2_with (first
    | (go_at_call 7; refine h1.mono ?_; rintro e w1 ⟨rfl, hb⟩; have HB := hideD hb; clear h1 hb)
    | (go_at_call 11; refine (h2 _).mono ?_; rintro e w2 ⟨rfl, rfl⟩; clear h2)
    | (go_at_call 18; refine (h3 _).mono ?_; rintro e w2 ⟨rfl, rfl⟩; clear h3)
    | (go_at_call 20; refine (h4 _).mono ?_; rintro e w2 ⟨rfl, rfl⟩; clear h4)
    | (go_at_call 21; refine (h5 _).mono ?_; rintro e w2 ⟨rfl, rfl⟩; clear h5)
    | (go_at_call 13; refine (h6 _).mono ?_; rintro e w2 ⟨rfl, rfl⟩; clear h6)
    | (go_at_call 16; refine (h7 _).mono ?_; rintro e w2 ⟨rfl, rfl⟩; clear h7)
    | fail)
  go_ret
  exact ⟨rfl, HB.out⟩
theorem dly_mono {a b : Int} (h : a ≤ b) : dly a ≤ dly b := by
  unfold dly
  repeat' split
  all_goals omega
theorem dly_in (a : Int) : 0 ≤ dly a ∧ dly a ≤ 40 := by
  unfold dly
  repeat' split
  all_goals omega
theorem dly_half (a : Int) (h : (Lit.int .i64 a).wf = true) : dly (wrap64 (a.tdiv 2)) ≤ max (dly a) (dly 0) := by
  have hb : -9223372036854775808 ≤ a ∧ a ≤ 9223372036854775807 := by
    simpa [Lit.wf, IntKind.min, IntKind.max, IntKind.signed, IntKind.bits] using h
  by_cases h0 : 0 ≤ a
  · have e : a.tdiv 2 = a / 2 := Int.tdiv_eq_ediv_of_nonneg h0
    rw [e]
    unfold wrap64
    have : dly ((a / 2 + 9223372036854775808) % 18446744073709551616 - 9223372036854775808) ≤ dly a := dly_mono (by omega)
    omega
  · have e : a.tdiv 2 = -((-a) / 2) := by
      have h1 : a = -(-a) := by omega
      conv => lhs; rw [h1]
      rw [Int.neg_tdiv, Int.tdiv_eq_ediv_of_nonneg (by omega)]
    rw [e]
    unfold wrap64
    have : dly ((-((-a) / 2) + 9223372036854775808) % 18446744073709551616 - 9223372036854775808) ≤ dly 0 := dly_mono (by omega)
    omega
set_option maxHeartbeats 1000000 in
theorem timersDelays_walk {w : World} (a : Int) (ha : (Lit.int .i64 a).wf = true) : Calls Try.prog 3 #[.int .i64 a] w fun e w' => e = .returned (.bool true) ∧ Below w.heap.size w w' := by
  have h1 := tAwake_any w
  have h2 := tDelay_any w a
  have h3 := fun wz => rDelay_any wz a
  have h4 := fun wz => tDelay_any wz (wrap64 (a.tdiv 2))
  have h5 := fun wz => tDelay_any wz 0
  obtain ⟨k1, k2⟩ := dly_in a
  have k3 := dly_half a ha
  generalize dly a = D at *
  generalize dly (wrap64 (a.tdiv 2)) = D2 at *
  generalize dly 0 = D0 at *
  go_enter Try.func3, Try.ntmps3
  go_wp2_with (first
    | (go_at_call 6; refine h2.mono ?_; rintro e w1 ⟨rfl, rfl⟩; clear h2)
    | (go_at_call 7; refine h1.mono ?_; rintro e w1 ⟨rfl, hb⟩; have HB := hideD hb; clear h1 hb)
    | (go_at_call 8; refine (h3 _).mono ?_; rintro e w2 ⟨rfl, rfl⟩; clear h3)
    | (go_at_call 6; refine (h4 _).mono ?_; rintro e w2 ⟨rfl, rfl⟩; clear h4)
    | (go_at_call 6; refine (h5 _).mono ?_; rintro e w2 ⟨rfl, rfl⟩; clear h5)
    | fail)
  go_ret
  exact ⟨rfl, HB.out⟩
end Go.Proofs.Ytdificdnicdnnaa

/- An argument that is a slice of bytes, opened: the bytes that it reads as, each from 0 to 255, and their number within the form's reach. -/
namespace Go.Proofs.Ytdificdnicdnnaa
open Go.ChangeShapes Go.WideShapes Go.ChangeAt Go.RowKit

theorem sized_text {H : Type} {P : Program} {ts : List TypeId} {ds : List (DataW H)} (h : (DataW.weightsEach P ts ds).all (· ≤ reachBytes) = true) {j : Nat} {t : TypeId} {s : ByteArray}
    (ht : ts[j]? = some t) (hd : ds[j]? = some (.lit (.string s.data.toList))) : s.size ≤ 140737488351232 := by
  have := sized_string h ht hd
  simp only [reachBytes, Array.length_toList] at this
  exact this

end Go.Proofs.Ytdificdnicdnnaa
