import Derived.Test.YtdificdnicdnnaaXjc02
import Derived.Test.YtdificdnicdnnaaXjc01
import Derived.Deep.RegionLaw
import Derived.Shelf.Strconv.Clone
import Derived.Test.YtdificdnicdnnaaRows

/- The program's timers: the queue's Push. -/
namespace Go.Proofs.Ytdificdnicdnnaa
open Go.RowKit Go.Lib Go.Maps
set_option linter.unusedSimpArgs false
set_option linter.unusedVariables false
attribute [local go_sem ↓] Go.wp_at_zero Go.wp_at_succ

theorem Try.infoTm : (Try.prog.info? 56).map (fun i => (i.zero, i.size, i.bytes)) = some (some (.agg #[.string ByteArray.empty, .int .i64 0]), 2, 24) := by kernel_rfl
theorem inf_getT {t : TypeId} {z : Value} {a b : Nat} (h : (Try.prog.info? t).map (fun i => (i.zero, i.size, i.bytes)) = some (some z, a, b)) : ∃ i, Try.prog.info? t = some i ∧ i.zero = some z ∧ i.size = a ∧ i.bytes = b := by
  cases hq : Try.prog.info? t with
  | none => rw [hq] at h; cases h
  | some i =>
    rw [hq] at h
    simp only [Option.map_some, Option.some.injEq, Prod.mk.injEq] at h
    exact ⟨i, rfl, h.1, h.2.1, h.2.2⟩
theorem eqlT1 (b : Nat) (w : World) : (binOp .eql 34 (.map (some b)) (.map none)).run Try.prog w = .ok (.bool false) w := by kernel_rfl
theorem eqlT0 (w : World) : (binOp .eql 34 (.map none) (.map none)).run Try.prog w = .ok (.bool true) w := by kernel_rfl
theorem src_tm (t : TypeId) (ht : Try.prog.underlying t = some (.slice 56)) (wa : World) (x : Tm) : Src Try.prog 2 t (.slice (some ⟨wa.heap.size, 0, none⟩) 1 1) 1 (celT [x]) (wa.alloc (.cells #[.string x.1, .int .i64 x.2] 56)) := by
  refine Src.ofSlice _ ht _ 1 1 _ rfl (fun j u hj => ?_) (oc_T _)
  rw [add_plain, Nat.zero_add]
  have hB : Bn (wa.alloc (.cells #[.string x.1, .int .i64 x.2] 56)) wa.heap.size [.string x.1, .int .i64 x.2] := Bn.new wa [.string x.1, .int .i64 x.2] _ _ rfl
  exact (hB j u hj).1
theorem push_map {w : World} {X : Nat} {F : Nat → Prop} {Q : List Tm} {v : Value} {mb : Nat} (h : PT w X F Q v (some mb)) {x : Tm} (hx : ∀ i, i < Q.length → (tg Q i).1 ≠ x.1) (hs : x.1.size ≤ 1000) (hl : Q.length ≤ 1000) :
    ∃ w2, (Instr.mapUpdate 34 (.map (some mb)) (.string x.1) (.int .i64 (Q.length : Int))).run Try.prog w.drew = .ok () w2 ∧ Bn w2 X [v, .map (some mb)] ∧ w2.ownsRow 0 56 2 v Q.length (celT Q) ∧ MapT w2 (some mb) (Q ++ [x]) ∧
      Kf F w w2 ∧ ∀ k, k < w.heap.size → k ≠ mb → w2.heap[k]? = w.heap[k]? := by
  have hmb := h.mm mb rfl
  rcases h.m with ⟨e, _⟩ | ⟨b, D, e, hp, ho⟩
  · cases e
  cases e
  obtain ⟨w2, r2, ho2, ht2⟩ := (ho.drew).store (string_keyed Try.underlying9) Try.underlying34 (by unfold maxLen; omega) (val := .int .i64 (Q.length : Int)) (d := .held (.int .i64 (Q.length : Int))) (ps := []) (keyS hs) rfl
  have g2 := ht2.grown
  have bl : ∀ k, k < w.heap.size → k ≠ mb → w2.heap[k]? = w.heap[k]? := fun k hk hne => g2.block k hk (fun e => hne (Option.some.inj e))
  have hpl := hp.push hx
  have hom := ownsMap_size ho2
  rw [hpl.n] at hom
  refine ⟨w2, r2, h.c.blk (bl X h.lt hmb.2.1.symm), ownsRow_keep h.o (fun k hk => bl k (ownsRow_lt h.o k hk).2 (fun e => hmb.2.2 (by rw [hk, e]))), .inr ⟨mb, _, rfl, hpl, hom⟩, ?_, bl⟩
  exact ((Kf.refl F w).drew).trans (Kf.grown g2 (fun k hk => by have := Option.some.inj hk; subst this; exact hmb.1))
theorem celT_one (Q : List Tm) (x : Tm) : celT Q ++ celT [x] = celT (Q ++ [x]) := (celT_app _ _).symm
theorem push_fin {w w2 wb : World} {X : Nat} {F : Nat → Prop} {Q : List Tm} {v v' : Value} {mb : Nat} {x : Tm} (h : PT w X F Q v (some mb)) (hs : x.1.size ≤ 1000) (hB : Bn w2 X [v, .map (some mb)]) (hR : w2.ownsRow 0 56 2 v Q.length (celT Q)) (hM : MapT w2 (some mb) (Q ++ [x]))
    (hK : Kf F w w2) (hO : wb.ownsRow 0 56 2 v' (Q.length + 1) (celT Q ++ celT [x])) (hg : (w2.drew.alloc (.cells #[.string x.1, .int .i64 x.2] 56)).grownBy wb v.ownBlock)
    (hat : v'.ownBlock = v.ownBlock ∨ v'.ownBlock = some (w2.drew.alloc (.cells #[.string x.1, .int .i64 x.2] 56)).heap.size) : Bn wb X [v, .map (some mb)] ∧ PT (wb.setCell ⟨X, 0, none⟩ v') X (nF F w) (Q ++ [x]) v' (some mb) ∧ Kf F w (wb.setCell ⟨X, 0, none⟩ v') := by
  have hmb := h.mm mb rfl
  have hml := hM.lt mb rfl
  have hXl := hB.lt
  have sz : (w2.drew.alloc (.cells #[.string x.1, .int .i64 x.2] 56)).heap.size = w2.heap.size + 1 := by simp
  have al : Below w2.heap.size w2 (w2.drew.alloc (.cells #[.string x.1, .int .i64 x.2] 56)) := ((Below.refl w2.heap.size w2).drew).alloc (Nat.le_refl _) _
  have bl : ∀ k, k < w2.heap.size → v.ownBlock ≠ some k → wb.heap[k]? = w2.heap[k]? := fun k hk hne => (hg.block k (by rw [sz]; omega) (fun e => hne e.symm)).trans (al.block k hk)
  have hXv : v.ownBlock ≠ some X := fun e => (h.oo X e).2 rfl
  have hBb : Bn wb X [v, .map (some mb)] := hB.blk (bl X hXl hXv)
  have hsz : w.heap.size ≤ w2.heap.size := hK.size
  have hv' : ∀ g, v'.ownBlock = some g → nF F w g ∧ g ≠ X ∧ g ≠ mb := fun g hg' => by
    rcases hat with e | e
    · rw [e] at hg'
      exact ⟨.inl (h.oo g hg').1, (h.oo g hg').2, fun e2 => hmb.2.2 (by rw [hg', e2])⟩
    · rw [e, sz] at hg'
      have := Option.some.inj hg'
      exact ⟨.inr (by omega), by omega, by omega⟩
  have kb : Kf F w2 wb := (((Kf.refl F w2).drew).alloc _).trans (Kf.grown hg (fun k hk => (h.oo k hk).1))
  refine ⟨hBb, ⟨.inl h.x, hBb.set (i := 0) (by simp) v', ?_, fun g hg' => ⟨(hv' g hg').1, (hv' g hg').2.1⟩, ?_, fun b hb => ?_, fun y hy => ?_⟩, hK.trans (kb.set h.x _)⟩
  · rw [List.length_append, ← celT_one]
    exact ownsRow_keep hO (fun g hg' => Below.heap_setCell _ _ _ _ (fun e => (hv' g hg').2.1 e))
  · refine (hM.keep (fun b hb hlt => ?_) : MapT wb (some mb) (Q ++ [x])).keep (fun b hb hlt => ?_)
    · cases hb
      exact bl mb hml (fun e => hmb.2.2 e)
    · cases hb
      exact Below.heap_setCell _ _ _ _ (fun e => hmb.2.1 e)
  · cases hb
    exact ⟨.inl hmb.1, hmb.2.1, fun e => (hv' mb e).2.2 rfl⟩
  · rcases List.mem_append.1 hy with hy | hy
    · exact h.s y hy
    · rw [List.mem_singleton.1 hy]
      exact hs
theorem push_pre {w W : World} {X : Nat} {F : Nat → Prop} {Q : List Tm} {v : Value} {mb : Nat} {x : Tm} (h : PT W X (nF F w) Q v (some mb)) (hKw : Kf F w W) (hT : Bn W w.heap.size [.string x.1, .int .i64 x.2]) (hne : mb ≠ w.heap.size) (hx : ∀ i, i < Q.length → (tg Q i).1 ≠ x.1) (hs : x.1.size ≤ 1000) (hl : Q.length ≤ 1000) :
    ∃ w2, (Instr.mapUpdate 34 (.map (some mb)) (.string x.1) (.int .i64 (Q.length : Int))).run Try.prog W.drew = .ok () w2 ∧
      (W.drew.cell? ⟨X, 0, none⟩ = some v ∧ W.drew.cell? ⟨X, 1, none⟩ = some (.map (some mb)) ∧ W.drew.cell? ⟨w.heap.size, 0, none⟩ = some (.string x.1)) ∧
      (w2.cell? ⟨X, 0, none⟩ = some v ∧ w2.cell? ⟨X, 1, none⟩ = some (.map (some mb)) ∧ w2.cell? ⟨w.heap.size, 0, none⟩ = some (.string x.1)) ∧
      (w2.cell? ⟨w.heap.size, 1, none⟩ = some (.int .i64 x.2)) ∧ (w2.drew.alloc (.cells #[.string x.1, .int .i64 x.2] 56)).cell? ⟨X, 0, none⟩ = some v ∧ (w2.drew.alloc (.cells #[.string x.1, .int .i64 x.2] 56)).ownsRow 0 56 2 v Q.length (celT Q) ∧
      ∀ v' wb, wb.ownsRow 0 56 2 v' (Q.length + 1) (celT Q ++ celT [x]) → (w2.drew.alloc (.cells #[.string x.1, .int .i64 x.2] 56)).grownBy wb v.ownBlock →
        (v'.ownBlock = v.ownBlock ∨ v'.ownBlock = some (w2.drew.alloc (.cells #[.string x.1, .int .i64 x.2] 56)).heap.size) → Bn wb X [v, .map (some mb)] ∧ PT (wb.setCell ⟨X, 0, none⟩ v') X (nF F w) (Q ++ [x]) v' (some mb) ∧ Kf F w (wb.setCell ⟨X, 0, none⟩ v') := by
  obtain ⟨w2, r2, hB, hR, hM, hK, hbl⟩ := push_map h hx hs hl
  have hTl := hT.lt
  have hT2 : Bn w2 w.heap.size [.string x.1, .int .i64 x.2] := hT.blk (hbl _ hTl hne.symm)
  refine ⟨w2, r2, ⟨(h.c 0 _ rfl).1, (h.c 1 _ rfl).1, (hT 0 _ rfl).1⟩, ⟨(hB 0 _ rfl).1, (hB 1 _ rfl).1, (hT2 0 _ rfl).1⟩, (hT2 1 _ rfl).1, (((Below.refl w2.heap.size w2.drew).alloc (Nat.le_refl _) _).cell (p := ⟨X, 0, none⟩) hB.lt).trans (hB 0 _ rfl).1, hR.drew.alloc _, fun v' wb hO hg hat => ?_⟩
  obtain ⟨h1, h2, h3⟩ := push_fin h hs hB hR hM hK hO hg hat
  have hws : w.heap.size ≤ W.heap.size := hKw.size
  refine ⟨h1, h2.keep (fun _ _ _ => rfl) (fun j _ hj => ?_), hKw.transN h3⟩
  rcases hj with hj | hj
  · exact hj
  · exact .inr (Nat.le_trans hws hj)
set_option maxRecDepth 100000 in
set_option maxHeartbeats 4000000 in
theorem qPush_any {w : World} {X : Nat} {F : Nat → Prop} {Q : List Tm} {v : Value} {mv : Option Nat} (h : PT w X F Q v mv) {x : Tm} (hx : ∀ i, i < Q.length → (tg Q i).1 ≠ x.1) (hs : x.1.size ≤ 1000) (hl : Q.length ≤ 1000) :
    Calls Try.prog 50 #[.pointer (some ⟨X, 0, none⟩), .iface 56 (.agg #[.string x.1, .int .i64 x.2])] w fun e w' => e = .returned (.tuple #[]) ∧ (∃ v' mv', PT w' X (nF F w) (Q ++ [x]) v' mv') ∧ Kf F w w' := by
  have hta : ∀ (w : World) (v : Value), (Instr.typeAssert (.iface 56 v) 20 56 true).run Try.prog w = .ok (.tuple #[v, .bool true]) w := fun w v => by kernel_rfl
  obtain ⟨ii, hi, hi0, hi1, hi2⟩ := inf_getT Try.infoTm
  have hXl := h.lt
  have hal : Below w.heap.size w (w.alloc (.cells #[.string x.1, .int .i64 x.2] 56)) := (Below.refl _ _).alloc (Nat.le_refl _) _
  have hB := Bn.new w [.string x.1, .int .i64 x.2] 56 _ rfl
  obtain ⟨t0, u0⟩ := hB 0 _ rfl
  obtain ⟨t1, u1⟩ := hB 1 _ rfl
  obtain ⟨ra, rc, rfl, hrl, hrm⟩ := h.form
  have hP := h.keep (H := nF F w) (w' := w.alloc (.cells #[.string x.1, .int .i64 x.2] 56)) (fun b _ hlt => hal.block b hlt) (fun j _ hj => .inl hj)
  obtain ⟨X0, F0⟩ := hP.c 0 _ rfl
  obtain ⟨X1, F1⟩ := hP.c 1 _ rfl
  cases mv with
  | none =>
    have hq := eqlT0
    have hmm := @run_makeMap Try.prog
    have hQ : Q = [] := by
      rcases h.m with ⟨_, e⟩ | ⟨b, D, e, _⟩
      · exact e
      · cases e
    have hsz : (w.alloc (.cells #[.string x.1, .int .i64 x.2] 56)).heap.size = w.heap.size + 1 := by simp
    have hal2 : Below (w.heap.size + 1) (w.alloc (.cells #[.string x.1, .int .i64 x.2] 56)) ((w.alloc (.cells #[.string x.1, .int .i64 x.2] 56)).alloc (.map #[] 0)) := (Below.refl _ _).alloc (by simp) _
    have ho0 := World.ownsMap_made (w.alloc (.cells #[.string x.1, .int .i64 x.2] 56)) Try.prog 9 hR
    rw [hsz] at ho0
    have hbw := hal.trans (hal2.mono (by omega))
    have hP1 := h.keep (H := nF F w) (w' := (w.alloc (.cells #[.string x.1, .int .i64 x.2] 56)).alloc (.map #[] 0)) (fun b _ hlt => hbw.block b hlt) (fun j _ hj => .inl hj)
    have hB1 : Bn ((w.alloc (.cells #[.string x.1, .int .i64 x.2] 56)).alloc (.map #[] 0)) w.heap.size [.string x.1, .int .i64 x.2] := hB.blk (hal2.block _ (by omega))
    have hsz2 : ((w.alloc (.cells #[.string x.1, .int .i64 x.2] 56)).alloc (.map #[] 0)).heap.size = w.heap.size + 2 := by simp
    have hP2 : PT (((w.alloc (.cells #[.string x.1, .int .i64 x.2] 56)).alloc (.map #[] 0)).setCell ⟨X, 1, none⟩ (.map (some (w.heap.size + 1)))) X (nF F w) Q (.slice ra Q.length rc) (some (w.heap.size + 1)) := by
      refine ⟨hP1.x, hP1.c.set (i := 1) (by simp) _, ownsRow_keep hP1.o (fun g hg => Below.heap_setCell _ _ _ _ (fun e => (h.oo g hg).2 e)), hP1.oo, .inr ⟨_, .map [], rfl, ?_, ?_⟩, fun b hb => ?_, h.s⟩
      · rw [hQ]
        exact Pl.nil
      · rw [hQ]
        exact ho0.setCell (show w.heap.size + 1 ≠ X by omega) _
      · have := Option.some.inj hb
        exact ⟨.inr (by omega), by omega, fun e => by have := (ownsRow_lt h.o b e).2; omega⟩
    have hB2 : Bn (((w.alloc (.cells #[.string x.1, .int .i64 x.2] 56)).alloc (.map #[] 0)).setCell ⟨X, 1, none⟩ (.map (some (w.heap.size + 1)))) w.heap.size [.string x.1, .int .i64 x.2] := hB1.far (by omega) _
    have hKW := (Kf.of (F := F) hbw (Nat.le_refl _)).set h.x (i := 1) (.map (some (w.heap.size + 1)))
    rw [World.setCell_alloc_past _ _ _ _ (by simp; omega), World.setCell_alloc_past _ _ _ _ hXl] at hP2 hB2 hKW
    have C0 := (hP1.c 0 _ rfl).1
    have C1 := (hP1.c 1 _ rfl).1
    have D1 := (hP1.c 1 _ rfl).2
    obtain ⟨w2, r2, ⟨x0, x1, x2⟩, ⟨y0, y1, y2⟩, y3, yA, HR, HF⟩ := push_pre (w := w) hP2 hKW hB2 (by omega) hx hs hl
    have yB : (w2.alloc (.cells #[.string x.1, .int .i64 x.2] 56)).cell? ⟨X, 0, none⟩ = some (.slice ra Q.length rc) := yA
    have HR := hideD HR
    have HF := hideD HF
    have z0 : w2.drew.cell? ⟨X, 0, none⟩ = some (.slice ra Q.length rc) := y0
    have z1 : w2.drew.cell? ⟨X, 1, none⟩ = some (.map (some (w.heap.size + 1))) := y1
    have z2 : w2.drew.cell? ⟨w.heap.size, 0, none⟩ = some (.string x.1) := y2
    have z3 : w2.drew.cell? ⟨w.heap.size, 1, none⟩ = some (.int .i64 x.2) := y3
    clear h hP hB hal hal2 hP1 hP2 hB1 hB2 hbw ho0 hQ
    go_enter Try.func50, Try.ntmps50
    go_wp2
    go_region_held_law (fun w' => w'.cell? ⟨X, 0, none⟩ = some (.slice ra Q.length rc) ∧ w'.cell? ⟨X, 1, none⟩ = some (.map (some (w.heap.size + 1))) ∧ w'.cell? ⟨w.heap.size, 0, none⟩ = some (.string x.1))
      (first | (with_reducible exact ⟨x0, x1, x2⟩) | (with_reducible exact ⟨y0, y1, y2⟩) | (with_reducible exact ⟨z0, z1, z2⟩)) (fail)
    go_wp2
    go_region_law (first
    | (refine step_append_at (w2.drew.alloc (.cells #[.string x.1, .int .i64 x.2] 56)) (by rfl) (.tmp 37) (.tmp 39) 33 33 (by rfl) 0 56 ii (.agg #[.string ByteArray.empty, .int .i64 0]) 2 24 Try.underlying33 hi hi0 hi1 hi2 rfl (.slice ra Q.length rc) Q.length (celT Q) (by rfl) HR.out _ 1 (celT [x]) (by rfl) (src_tm 33 Try.underlying33 w2.drew x) 1 (.inr (by omega)) (Nat.le_refl _) (by unfold maxLen; omega) (by omega) ?_; intro vb wb hOb hgb hat; obtain ⟨hBb, hPb, hKb⟩ := HF.out vb wb hOb hgb hat; obtain ⟨va, vc, hvb, _, _⟩ := hPb.form; rw [List.length_append, List.length_singleton] at hvb; subst hvb; obtain ⟨z0, n0⟩ := hBb 0 _ rfl; have HPb := hideD (And.intro hPb hKb); clear hOb hgb hat hBb hPb hKb HF)
    | fail)
    all_goals (
      go_end0
      exact ⟨rfl, ⟨_, _, HPb.out.1⟩, HPb.out.2⟩)
  | some mb =>
    have hq := eqlT1 mb
    have hmb : mb < w.heap.size := h.m.lt mb rfl
    obtain ⟨w2, r2, ⟨x0, x1, x2⟩, ⟨y0, y1, y2⟩, y3, yA, HR, HF⟩ := push_pre (w := w) hP (Kf.of hal (Nat.le_refl _)) hB (by omega) hx hs hl
    have yB : (w2.alloc (.cells #[.string x.1, .int .i64 x.2] 56)).cell? ⟨X, 0, none⟩ = some (.slice ra Q.length rc) := yA
    have HR := hideD HR
    have HF := hideD HF
    have z0 : w2.drew.cell? ⟨X, 0, none⟩ = some (.slice ra Q.length rc) := y0
    have z1 : w2.drew.cell? ⟨X, 1, none⟩ = some (.map (some mb)) := y1
    have z2 : w2.drew.cell? ⟨w.heap.size, 0, none⟩ = some (.string x.1) := y2
    have z3 : w2.drew.cell? ⟨w.heap.size, 1, none⟩ = some (.int .i64 x.2) := y3
    clear h hP hB hal
    go_enter Try.func50, Try.ntmps50
    go_wp2
    go_region_held_law (fun w' => w'.cell? ⟨X, 0, none⟩ = some (.slice ra Q.length rc) ∧ w'.cell? ⟨X, 1, none⟩ = some (.map (some mb)) ∧ w'.cell? ⟨w.heap.size, 0, none⟩ = some (.string x.1))
      (first | (with_reducible exact ⟨x0, x1, x2⟩) | (with_reducible exact ⟨y0, y1, y2⟩) | (with_reducible exact ⟨z0, z1, z2⟩)) (fail)
    go_wp2
    go_region_law (first
    | (refine step_append_at (w2.drew.alloc (.cells #[.string x.1, .int .i64 x.2] 56)) (by rfl) (.tmp 37) (.tmp 39) 33 33 (by rfl) 0 56 ii (.agg #[.string ByteArray.empty, .int .i64 0]) 2 24 Try.underlying33 hi hi0 hi1 hi2 rfl (.slice ra Q.length rc) Q.length (celT Q) (by rfl) HR.out _ 1 (celT [x]) (by rfl) (src_tm 33 Try.underlying33 w2.drew x) 1 (.inr (by omega)) (Nat.le_refl _) (by unfold maxLen; omega) (by omega) ?_; intro vb wb hOb hgb hat; obtain ⟨hBb, hPb, hKb⟩ := HF.out vb wb hOb hgb hat; obtain ⟨va, vc, hvb, _, _⟩ := hPb.form; rw [List.length_append, List.length_singleton] at hvb; subst hvb; obtain ⟨z0, n0⟩ := hBb 0 _ rfl; have HPb := hideD (And.intro hPb hKb); clear hOb hgb hat hBb hPb hKb HF)
    | fail)
    all_goals (
      go_end0
      exact ⟨rfl, ⟨_, _, HPb.out.1⟩, HPb.out.2⟩)

theorem step_delete_own {H : Type} {P : Program} (w : World) {ops : Array Oper} {o : Oper} {a : Act} {K : Act → World → Prop} {Q : Exit → Act → World → Prop} {E : Prop} (hgd : o.guard = none) (m x : Operand) (t k : TypeId)
    (hop : o.op = Op.call { callee := Callee.builtin Builtin.delete, args := #[m, x], argTypes := #[t, k] }) (e : TypeId) (Ky : Keyed P k) (ht : P.underlying t = some (.map k e)) (R : Value → Option (DataW H × List MemPlace)) (b n : Nat) (D : DataW H)
    (hm : a.eval m = .map (some b)) (hown : w.ownsMap P k R b n D) (key : Value) (kl : Lit) (hx : a.eval x = key) (hkey : keyOf P k key = some kl)
    (hK : ∀ w', w'.ownsMap P k R b n (D.del kl) → w.mapTurned w' b → K (a.put o.dst (.tuple #[])) w') :
    if Region.wanted o (yielded ops a.tmps) = true then Oper.wp P o a w K Q else E := by
  have hw : Region.wanted o (yielded ops a.tmps) = true := by simp [Region.wanted, hgd]
  rw [if_pos hw]
  obtain ⟨w', hrun, r1, r2⟩ := hown.drop Ky ht hkey o.type
  unfold Oper.wp
  simp [execOp, hop, resolve, invoke, builtin, hm, hx, hrun, Result.andThen]
  exact hK w' r1 r2
def p3 (w : World) (X g n cap : Nat) : World := ((w.setCell ⟨g, n * 2, none⟩ (.string ⟨#[]⟩)).setCell ⟨g, n * 2 + 1, none⟩ (.int .i64 0)).setCell ⟨X, 0, none⟩ (.slice (some ⟨g, 0, none⟩) n cap)
theorem pop_mem {w : World} {X : Nat} {F : Nat → Prop} {Q : List Tm} {x : Tm} {g cap : Nat} {mv : Option Nat} (h : PT w X F (Q ++ [x]) (.slice (some ⟨g, 0, none⟩) (Q.length + 1) cap) mv) :
    ∃ mb D, mv = some mb ∧ ((p3 w X g Q.length cap).alloc (.cells #[.string x.1, .int .i64 x.2] 56)).drew.ownsMap Try.prog 9 hR mb (Q.length + 1) D ∧ keyOf Try.prog 9 (.string x.1) = some (ks x.1) ∧
      ((p3 w X g Q.length cap).alloc (.cells #[.string x.1, .int .i64 x.2] 56)).cell? ⟨X, 1, none⟩ = some (.map mv) ∧
      ((p3 w X g Q.length cap).alloc (.cells #[.string x.1, .int .i64 x.2] 56)).cell? ⟨w.heap.size, 0, none⟩ = some (.string x.1) ∧
      ∀ w2, w2.ownsMap Try.prog 9 hR mb (Q.length + 1) (D.del (ks x.1)) → ((p3 w X g Q.length cap).alloc (.cells #[.string x.1, .int .i64 x.2] 56)).drew.mapTurned w2 mb →
        w2.cell? ⟨w.heap.size, 0, none⟩ = some (.string x.1) ∧ w2.cell? ⟨w.heap.size, 1, none⟩ = some (.int .i64 x.2) ∧ PT w2 X F Q (.slice (some ⟨g, 0, none⟩) Q.length cap) mv ∧ Kf F w w2 := by
  have hm := h.m
  rcases hm with ⟨_, e⟩ | ⟨mb, D, rfl, hp, ho⟩
  · simp at e
  have hFg := h.oo g rfl
  have hmb := h.mm mb rfl
  have hgm : g ≠ mb := fun e => hmb.2.2 (by rw [← e]; rfl)
  have hgX : g ≠ X := hFg.2
  have hmX : mb ≠ X := hmb.2.1
  have hglt := (ownsRow_lt h.o g rfl).2
  have hmlt := ho.lt
  have hXlt := h.lt
  have hn : Q.length < (Q ++ [x]).length := by simp
  have ho0 := h.o
  rw [List.length_append, List.length_singleton] at ho0 ho
  obtain ⟨o1, n1⟩ := ho0.stored (Q.length * 2) (.string tz.1)
  obtain ⟨o2, n2⟩ := o1.stored (Q.length * 2 + 1) (.int .i64 tz.2)
  rw [celT_set tz hn] at o2
  have e1 : (Q ++ [x]).set Q.length tz = Q ++ [tz] := by simp
  rw [e1, celT_app] at o2
  have o3 := ownsRow_pop (celT_len Q) o2
  have hB3 : Bn (p3 w X g Q.length cap) X [.slice (some ⟨g, 0, none⟩) Q.length cap, .map (some mb)] := (((h.c.far hgX _).far hgX _).set (i := 0) (by simp) _)
  have ho3 : (p3 w X g Q.length cap).ownsMap Try.prog 9 hR mb (Q.length + 1) D := ((ho.setCell hgm.symm _).setCell hgm.symm _).setCell hmX _
  have hk3 : Kf F w (p3 w X g Q.length cap) := (((Kf.refl F w).set hFg.1 _).set hFg.1 _).set h.x _
  have o4 : (p3 w X g Q.length cap).ownsRow 0 56 2 (.slice (some ⟨g, 0, none⟩) Q.length cap) Q.length (celT Q) := ownsRow_keep o3 (fun k hk => Below.heap_setCell _ _ _ _ (fun e => by subst e; simp [Value.ownBlock] at hk; exact hgX hk))
  have hs3 : (p3 w X g Q.length cap).heap.size = w.heap.size := by unfold p3; simp
  clear o1 o2 o3 n1 n2
  generalize p3 w X g Q.length cap = W at *
  have hal : Below W.heap.size W (W.alloc (.cells #[.string x.1, .int .i64 x.2] 56)) := (Below.refl _ _).alloc (Nat.le_refl _) _
  have hT : Bn (W.alloc (.cells #[.string x.1, .int .i64 x.2] 56)) w.heap.size [.string x.1, .int .i64 x.2] := Bn.new W [.string x.1, .int .i64 x.2] _ _ hs3.symm
  have hBa := hB3.on hal
  refine ⟨mb, D, rfl, (ho3.alloc _).drew, keyS (h.s x (by simp)), (hBa 1 _ rfl).1, (hT 0 _ rfl).1, fun w2 ho2 ht2 => ?_⟩
  have g2 := ht2.grown
  have sa : (W.alloc (.cells #[.string x.1, .int .i64 x.2] 56)).heap.size = w.heap.size + 1 := by simp [hs3]
  have bl : ∀ k, k < w.heap.size + 1 → k ≠ mb → w2.heap[k]? = (W.alloc (.cells #[.string x.1, .int .i64 x.2] 56)).heap[k]? := fun k hk hne => g2.block k (by show k < (W.alloc _).heap.size; omega) (fun e => hne (Option.some.inj e))
  have hT2 := hT.blk (bl w.heap.size (by omega) (by omega))
  have hpl := hp.pop
  have hom := ownsMap_size ho2
  rw [hpl.n] at hom
  refine ⟨(hT2 0 _ rfl).1, (hT2 1 _ rfl).1, ⟨h.x, hBa.blk (bl X (by omega) hmX.symm), ownsRow_keep (o4.alloc (.cells #[.string x.1, .int .i64 x.2] 56)) (fun k hk => bl k (by have := (ownsRow_lt o4 k hk).2; omega) (fun e => by subst e; simp [Value.ownBlock] at hk; exact hgm hk)), h.oo, .inr ⟨mb, _, rfl, hpl, hom⟩, fun b hb => ⟨(h.mm b hb).1, (h.mm b hb).2⟩, fun y hy => h.s y (by simp [hy])⟩, ?_⟩
  exact ((hk3.alloc _).drew).trans (Kf.grown g2 (fun k hk => by have := Option.some.inj hk; subst this; exact hmb.1))
set_option maxRecDepth 100000 in
set_option maxHeartbeats 4000000 in
theorem qPop_any {w : World} {X : Nat} {F : Nat → Prop} {Q : List Tm} {x : Tm} {v : Value} {mv : Option Nat} (h : PT w X F (Q ++ [x]) v mv) (hl : Q.length ≤ 1000) :
    Calls Try.prog 49 #[.pointer (some ⟨X, 0, none⟩)] w fun e w' => e = .returned (.iface 56 (.agg #[.string x.1, .int .i64 x.2])) ∧ (∃ v', PT w' X F Q v' mv) ∧ Kf F w w' := by
  have hn : Q.length < (Q ++ [x]).length := by simp
  obtain ⟨g, cap, rfl, hcl, hcm, hgl, hc, hfz⟩ := h.at (by omega)
  have htx : tg (Q ++ [x]) Q.length = x := by unfold tg; simp [List.getD_eq_getElem?_getD]
  obtain ⟨a0, a1⟩ := hc _ hn
  rw [htx] at a0 a1
  have fa0 := hfz (Q.length * 2)
  have fa1 := hfz (Q.length * 2 + 1)
  have hgX := (h.oo g rfl).2
  have hXl := h.lt
  obtain ⟨c0, f0⟩ := h.c 0 _ rfl
  rw [List.length_append, List.length_singleton] at h c0 hcl
  obtain ⟨mb, D, rfl, ho, hkey, x1, x2, HF⟩ := pop_mem h
  have HF := hideD HF
  have hw1 : IntKind.i64.wrap ((Q.length : Int) + 1 - 1) = (Q.length : Int) := by rw [IntKind.wrap_i64]; omega
  have i1 : (0 : Int) ≤ (Q.length : Int) := by omega
  have i2 : (Q.length : Int) < (Q.length : Int) + 1 := by omega
  have i3 : (Q.length : Int) ≤ (cap : Int) := by omega
  have hXg : ¬ X = g := fun e => hgX e.symm
  have hgX' : ¬ g = X := hgX
  clear h hc hfz htx hn
  generalize Q.length = n at *
  unfold p3 at *
  go_enter Try.func49, Try.ntmps49
  go_wp2
  go_region_law (first
    | (refine step_delete_own _ (by rfl) (.tmp 37) (.tmp 39) 34 9 (by rfl) 3 (string_keyed Try.underlying9) Try.underlying34 hR mb (n + 1) D (by rfl) ho (.string x.1) (ks x.1) (by rfl) hkey ?_; intro w2 ho2 ht2; obtain ⟨g0, g1, hP, hK⟩ := HF.out w2 ho2 ht2; have HP := hideD (And.intro hP hK); clear ho ho2 ht2 hP hK HF)
    | fail)
  all_goals (
    go_wp2
    go_ret
    exact ⟨rfl, ⟨_, HP.out.1⟩, HP.out.2⟩)

def hqI (X : Nat) : Value := .iface 58 (.pointer (some ⟨X, 0, none⟩))
theorem mt_less (X : Nat) (w : World) : (method 189 58 (.pointer (some ⟨X, 0, none⟩)) "Less").run Try.prog w = .ok (48, .pointer (some ⟨X, 0, none⟩)) w := by kernel_rfl
theorem mt_swap (X : Nat) (w : World) : (method 189 58 (.pointer (some ⟨X, 0, none⟩)) "Swap").run Try.prog w = .ok (51, .pointer (some ⟨X, 0, none⟩)) w := by kernel_rfl
theorem mt_len (X : Nat) (w : World) : (method 189 58 (.pointer (some ⟨X, 0, none⟩)) "Len").run Try.prog w = .ok (28, .pointer (some ⟨X, 0, none⟩)) w := by kernel_rfl
theorem mt_push (X : Nat) (w : World) : (method 189 58 (.pointer (some ⟨X, 0, none⟩)) "Push").run Try.prog w = .ok (50, .pointer (some ⟨X, 0, none⟩)) w := by kernel_rfl
theorem mt_pop (X : Nat) (w : World) : (method 189 58 (.pointer (some ⟨X, 0, none⟩)) "Pop").run Try.prog w = .ok (49, .pointer (some ⟨X, 0, none⟩)) w := by kernel_rfl
set_option maxRecDepth 100000 in
set_option maxHeartbeats 2000000 in
theorem hUp_any {w : World} {X : Nat} {F : Nat → Prop} {Q : List Tm} {v : Value} {mv : Option Nat} (h : PT w X F Q v mv) {j : Nat} (hj : j < Q.length) (hl : Q.length ≤ 1000) :
    Calls Try.prog 30 #[hqI X, .int .i64 (j : Int)] w fun e w' => e = .returned (.tuple #[]) ∧ PT w' X F (upQ Q j) v mv ∧ Kf F w w' := by
  obtain ⟨R, hR⟩ : ∃ R, upQ Q j = R := ⟨_, rfl⟩
  have hmt := mt_less X
  have hms := mt_swap X
  have H0 := hideD h
  have HL := hideD hl
  have HR := hideD hR
  rw [hR]
  clear h hR
  unfold hqI
  go_enter Try.func30, Try.ntmps30
  go_wp2
  go_loopw [1] (fun ix wr => ∃ (i : Nat) (P : List Tm), ix = .int .i64 (i : Int) ∧ i < P.length ∧ P.length = Q.length ∧ upQ P i = R ∧ PT wr X F P v mv ∧ Kf F w wr) (fun ix _ => (RowKit.intOf ix).toNat)
  case atStart => exact ⟨j, Q, rfl, hj, rfl, HR.out, H0.out, Kf.refl F w⟩
  case round =>
    obtain ⟨i, P, rfl, hi, hPl, hup, hP, hk⟩ := hrel
    clear hj hl H0 HR
    by_cases h0 : i = 0
    · subst h0
      have e : upQ P 0 = P := by rw [upQ]; simp
      rw [e] at hup
      subst hup
      have HH := hideD (And.intro hP hk)
      clear hP hk
      go_wp2
      go_end0
      exact ⟨rfl, HH.out⟩
    · have e : upQ P i = if tlt (tg P i) (tg P (par i)) then upQ (sw P (par i) i) (par i) else P := by rw [upQ, dif_pos (by omega)]
      rw [e] at hup
      clear e
      have hpi : par i < i := by unfold par; omega
      have hls := qLess_any hP hi (show par i < P.length by omega)
      have hw : wrap64 ((wrap64 ((i : Int) - 1)).tdiv 2) = (par i : Int) := by
        have : P.length ≤ 1000 := by rw [hPl]; exact HL.out
        have e1 : wrap64 ((i : Int) - 1) = ((i - 1 : Nat) : Int) := by unfold wrap64; omega
        rw [e1]
        have e2 : ((i - 1 : Nat) : Int).tdiv 2 = ((par i : Nat) : Int) := by unfold par; rw [Int.tdiv_eq_ediv_of_nonneg (by omega)]; omega
        rw [e2]
        unfold wrap64
        omega
      have k1 : ¬ (par i : Int) = (i : Int) := by omega
      by_cases ht : tlt (tg P i) (tg P (par i)) = true
      · rw [if_pos ht] at hup
        rw [ht] at hls
        have HUP := hideD hup
        have HP := hideD hP
        have HK := hideD hk
        have HI := hideD hi
        have HPI := hideD hpi
        have HPL := hideD hPl
        clear hup hP hk ht hi hpi hPl
        go_wp2_with (first
          | (go_at_call 48; refine hls.mono ?_; rintro e w1 ⟨rfl, hb1⟩; have hsp := qSwap_any (HP.out.on hb1) (a := par i) (b := i) (Nat.lt_trans HPI.out HI.out) HI.out (by rw [HPL.out]; exact HL.out); have HK1 := hideD (HK.out.trans (Kf.of hb1 (Nat.le_refl _))); clear hls hb1)
          | (go_at_call 51; refine hsp.mono ?_; rintro e w2 ⟨rfl, hP2, hK2⟩; have HP2 := hideD hP2; have HK2 := hideD (HK1.out.trans hK2); clear hsp hP2 hK2)
          | fail)
        go_roundw
        case rel => exact ⟨par i, sw P (par i) i, rfl, by rw [sw_len]; exact Nat.lt_trans HPI.out HI.out, by rw [sw_len]; exact HPL.out, HUP.out, HP2.out, HK2.out⟩
        case measure => have := HPI.out; simp [RowKit.intOf]; omega
      · rw [if_neg ht] at hup
        subst hup
        have ht' : tlt (tg P i) (tg P (par i)) = false := by simpa using ht
        rw [ht'] at hls
        have HP := hideD hP
        have HK := hideD hk
        clear hP hk ht ht' hi hpi hPl
        go_wp2_with (first
          | (go_at_call 48; refine hls.mono ?_; rintro e w1 ⟨rfl, hb1⟩; have HP1 := hideD (HP.out.on hb1); have HK1 := hideD (HK.out.trans (Kf.of hb1 (Nat.le_refl _))); clear hls hb1)
          | fail)
        go_end0
        exact ⟨rfl, HP1.out, HK1.out⟩

set_option maxRecDepth 100000 in
set_option maxHeartbeats 4000000 in
theorem hDown_any {w : World} {X : Nat} {F : Nat → Prop} {Q : List Tm} {v : Value} {mv : Option Nat} (h : PT w X F Q v mv) {i0 n : Nat} (hi0 : i0 ≤ 1000) (hn : n ≤ Q.length) (hl : Q.length ≤ 1000) :
    Calls Try.prog 29 #[hqI X, .int .i64 (i0 : Int), .int .i64 (n : Int)] w fun e w' => e = .returned (.bool (decide ((i0 : Int) < ((dnQ Q i0 n).2 : Int)))) ∧ PT w' X F (dnQ Q i0 n).1 v mv ∧ Kf F w w' := by
  obtain ⟨R, hR⟩ : ∃ R, dnQ Q i0 n = R := ⟨_, rfl⟩
  have hmt := mt_less X
  have hms := mt_swap X
  have H0 := hideD h
  have HL := hideD hl
  have HR := hideD hR
  have HN := hideD hn
  have HI0 := hideD hi0
  rw [hR]
  clear h hR hn hi0 hl
  unfold hqI
  go_enter Try.func29, Try.ntmps29
  go_wp2
  go_loopw [7] (fun ix wr => ∃ (i : Nat) (P : List Tm), ix = .int .i64 (i : Int) ∧ i ≤ 1000 ∧ P.length = Q.length ∧ dnQ P i n = R ∧ PT wr X F P v mv ∧ Kf F w wr) (fun ix _ => n - (RowKit.intOf ix).toNat)
  case atStart => exact ⟨i0, Q, rfl, HI0.out, rfl, HR.out, H0.out, Kf.refl F w⟩
  case round =>
    obtain ⟨i, P, rfl, hi, hPl, hdn, hP, hk⟩ := hrel
    clear H0 HR
    have c1 : ((2 * i + 1 : Nat) : Int) = 2 * (i : Int) + 1 := by omega
    have c2 : ((2 * i + 2 : Nat) : Int) = 2 * (i : Int) + 1 + 1 := by omega
    by_cases hc : 2 * i + 1 < n
    · have e : dnQ P i n = if tlt (tg P (kid P i n)) (tg P i) then dnQ (sw P i (kid P i n)) (kid P i n) n else (P, i) := by rw [dnQ, dif_pos hc]
      rw [e] at hdn
      clear e
      have hnl : n ≤ P.length := by rw [hPl]; exact HN.out
      have hPm : P.length ≤ 1000 := by rw [hPl]; exact HL.out
      obtain ⟨g1, g2, _⟩ := kid_ge P i n
      replace g2 := g2 hc
      have hk1 : ∀ wz, Below wr.heap.size wr wz → Calls Try.prog 48 #[.pointer (some ⟨X, 0, none⟩), .int .i64 (kid P i n : Int), .int .i64 (i : Int)] wz fun e w' => e = .returned (.bool (tlt (tg P (kid P i n)) (tg P i))) ∧ Below wz.heap.size wz w' := fun wz hb => qLess_any (hP.on hb) (Nat.lt_of_lt_of_le g2 hnl) (by omega)
      have hk2 : ∀ wz, Below wr.heap.size wr wz → Calls Try.prog 51 #[.pointer (some ⟨X, 0, none⟩), .int .i64 (i : Int), .int .i64 (kid P i n : Int)] wz fun e w' => e = .returned (.tuple #[]) ∧ PT w' X F (sw P i (kid P i n)) v mv ∧ Kf F wz w' := fun wz hb => qSwap_any (hP.on hb) (by omega) (Nat.lt_of_lt_of_le g2 hnl) hPm
      have k1 : ¬ (n : Int) ≤ 2 * (i : Int) + 1 := by omega
      have k2 : ¬ 2 * (i : Int) + 1 < 0 := by omega
      have HG := hideD (And.intro g1 g2)
      by_cases h2 : 2 * i + 2 < n
      · have hk0 := qLess_any hP (a := 2 * i + 2) (b := 2 * i + 1) (by omega) (by omega)
        have k3 : 2 * (i : Int) + 1 + 1 < (n : Int) := by omega
        by_cases ht : tlt (tg P (2 * i + 2)) (tg P (2 * i + 1)) = true
        · have ek : kid P i n = 2 * i + 2 := by unfold kid; rw [if_pos ⟨h2, ht⟩]
          rw [ht] at hk0
          rw [ek] at hdn hk1 hk2 HG
          rw [c2] at hk1 hk2
          rw [c2, c1] at hk0
          by_cases hlt : tlt (tg P (2 * i + 2)) (tg P i) = true
          · rw [if_pos hlt] at hdn
            rw [hlt] at hk1
            have HD := hideD hdn
            have HK := hideD hk
            have HPL := hideD hPl
            clear hdn hk hP hlt hPl g1 g2 ek c1 c2 hc h2 hnl hPm ht
            go_wp2_with (first
              | (go_at_call 48; refine hk0.mono ?_; rintro e wa ⟨rfl, hb1⟩; have HB := hideD hb1; clear hk0 hb1)
              | (go_at_call 48; refine (hk1 _ HB.out).mono ?_; rintro e wb ⟨rfl, hb2⟩; have HB2 := hideD (HB.out.trans (hb2.mono HB.out.size)); clear hk1 hb2)
              | (go_at_call 51; refine (hk2 _ HB2.out).mono ?_; rintro e wc ⟨rfl, hP2, hK2⟩; have HP2 := hideD (And.intro hP2 ((HK.out.trans (Kf.of HB2.out (Nat.le_refl _))).trans hK2)); clear hk2 hP2 hK2)
              | fail)
            go_roundw
            case rel => exact ⟨2 * i + 2, sw P i (2 * i + 2), congrArg (Value.int .i64) (by omega), by have := HG.out.2; have := HN.out; have := HL.out; omega, by rw [sw_len]; exact HPL.out, HD.out, HP2.out⟩
            case measure => have := HG.out; simp [RowKit.intOf]; omega
          · rw [if_neg hlt] at hdn
            subst hdn
            have hlt' : tlt (tg P (2 * i + 2)) (tg P i) = false := by simpa using hlt
            rw [hlt'] at hk1
            have HH := hideD (And.intro hP hk)
            clear hk hP hlt hlt' hPl g1 g2 ek hk2 c1 c2 hc h2 hnl hPm ht
            go_wp2_with (first
              | (go_at_call 48; refine hk0.mono ?_; rintro e wa ⟨rfl, hb1⟩; have HB := hideD hb1; clear hk0 hb1)
              | (go_at_call 48; refine (hk1 _ HB.out).mono ?_; rintro e wb ⟨rfl, hb2⟩; have HB2 := hideD (HB.out.trans (hb2.mono HB.out.size)); clear hk1 hb2)
              | fail)
            go_ret
            exact ⟨rfl, HH.out.1.on HB2.out, HH.out.2.trans (Kf.of HB2.out (Nat.le_refl _))⟩
        · have ek : kid P i n = 2 * i + 1 := by unfold kid; rw [if_neg (fun e => ht e.2)]
          have ht' : tlt (tg P (2 * i + 2)) (tg P (2 * i + 1)) = false := by simpa using ht
          rw [ht'] at hk0
          rw [ek] at hdn hk1 hk2 HG
          rw [c1] at hk1 hk2
          rw [c2, c1] at hk0
          by_cases hlt : tlt (tg P (2 * i + 1)) (tg P i) = true
          · rw [if_pos hlt] at hdn
            rw [hlt] at hk1
            have HD := hideD hdn
            have HK := hideD hk
            have HPL := hideD hPl
            clear hdn hk hP hlt hPl g1 g2 ek c1 c2 hc h2 hnl hPm ht ht'
            go_wp2_with (first
              | (go_at_call 48; refine hk0.mono ?_; rintro e wa ⟨rfl, hb1⟩; have HB := hideD hb1; clear hk0 hb1)
              | (go_at_call 48; refine (hk1 _ HB.out).mono ?_; rintro e wb ⟨rfl, hb2⟩; have HB2 := hideD (HB.out.trans (hb2.mono HB.out.size)); clear hk1 hb2)
              | (go_at_call 51; refine (hk2 _ HB2.out).mono ?_; rintro e wc ⟨rfl, hP2, hK2⟩; have HP2 := hideD (And.intro hP2 ((HK.out.trans (Kf.of HB2.out (Nat.le_refl _))).trans hK2)); clear hk2 hP2 hK2)
              | fail)
            go_roundw
            case rel => exact ⟨2 * i + 1, sw P i (2 * i + 1), congrArg (Value.int .i64) (by omega), by have := HG.out.2; have := HN.out; have := HL.out; omega, by rw [sw_len]; exact HPL.out, HD.out, HP2.out⟩
            case measure => have := HG.out; simp [RowKit.intOf]; omega
          · rw [if_neg hlt] at hdn
            subst hdn
            have hlt' : tlt (tg P (2 * i + 1)) (tg P i) = false := by simpa using hlt
            rw [hlt'] at hk1
            have HH := hideD (And.intro hP hk)
            clear hk hP hlt hlt' hPl g1 g2 ek hk2 c1 c2 hc h2 hnl hPm ht ht'
            go_wp2_with (first
              | (go_at_call 48; refine hk0.mono ?_; rintro e wa ⟨rfl, hb1⟩; have HB := hideD hb1; clear hk0 hb1)
              | (go_at_call 48; refine (hk1 _ HB.out).mono ?_; rintro e wb ⟨rfl, hb2⟩; have HB2 := hideD (HB.out.trans (hb2.mono HB.out.size)); clear hk1 hb2)
              | fail)
            go_ret
            exact ⟨rfl, HH.out.1.on HB2.out, HH.out.2.trans (Kf.of HB2.out (Nat.le_refl _))⟩
      · have ek : kid P i n = 2 * i + 1 := by unfold kid; rw [if_neg (fun e => h2 e.1)]
        have k3 : ¬ 2 * (i : Int) + 1 + 1 < (n : Int) := by omega
        rw [ek] at hdn hk1 hk2 HG
        rw [c1] at hk1 hk2
        have HB := hideD (Below.refl wr.heap.size wr)
        by_cases hlt : tlt (tg P (2 * i + 1)) (tg P i) = true
        · rw [if_pos hlt] at hdn
          rw [hlt] at hk1
          have HD := hideD hdn
          have HK := hideD hk
          have HPL := hideD hPl
          clear hdn hk hP hlt hPl g1 g2 ek c1 c2 hc h2 hnl hPm
          go_wp2_with (first
            | (go_at_call 48; refine (hk1 _ HB.out).mono ?_; rintro e wb ⟨rfl, hb2⟩; have HB2 := hideD (HB.out.trans (hb2.mono HB.out.size)); clear hk1 hb2)
            | (go_at_call 51; refine (hk2 _ HB2.out).mono ?_; rintro e wc ⟨rfl, hP2, hK2⟩; have HP2 := hideD (And.intro hP2 ((HK.out.trans (Kf.of HB2.out (Nat.le_refl _))).trans hK2)); clear hk2 hP2 hK2)
            | fail)
          go_roundw
          case rel => exact ⟨2 * i + 1, sw P i (2 * i + 1), congrArg (Value.int .i64) (by omega), by have := HG.out.2; have := HN.out; have := HL.out; omega, by rw [sw_len]; exact HPL.out, HD.out, HP2.out⟩
          case measure => have := HG.out; simp [RowKit.intOf]; omega
        · rw [if_neg hlt] at hdn
          subst hdn
          have hlt' : tlt (tg P (2 * i + 1)) (tg P i) = false := by simpa using hlt
          rw [hlt'] at hk1
          have HH := hideD (And.intro hP hk)
          clear hk hP hlt hlt' hPl g1 g2 ek hk2 c1 c2 hc h2 hnl hPm
          go_wp2_with (first
            | (go_at_call 48; refine (hk1 _ HB.out).mono ?_; rintro e wb ⟨rfl, hb2⟩; have HB2 := hideD (HB.out.trans (hb2.mono HB.out.size)); clear hk1 hb2)
            | fail)
          go_ret
          exact ⟨rfl, HH.out.1.on HB2.out, HH.out.2.trans (Kf.of HB2.out (Nat.le_refl _))⟩
    · have e : dnQ P i n = (P, i) := by rw [dnQ, dif_neg hc]
      rw [e] at hdn
      subst hdn
      have k1 : (n : Int) ≤ 2 * (i : Int) + 1 := by omega
      have HH := hideD (And.intro hP hk)
      clear hP hk hc e c1 c2
      go_wp2
      go_ret
      exact ⟨rfl, HH.out⟩

theorem up_len : ∀ (j : Nat) (Q : List Tm), (upQ Q j).length = Q.length := by
  intro j
  induction j using Nat.strongRecOn with
  | ind j ih =>
    intro Q
    rw [upQ]
    by_cases hj : 0 < j
    · rw [dif_pos hj]
      split
      · rw [ih (par j) (by unfold par; omega), sw_len]
      · rfl
    · rw [dif_neg hj]
/-- Down, and up if it hasn't moved. -/
def dnup (Q : List Tm) (i n : Nat) : List Tm := if i < (dnQ Q i n).2 then (dnQ Q i n).1 else upQ (dnQ Q i n).1 i
def remQ (Q : List Tm) (i : Nat) : List Tm := (if i = Q.length - 1 then Q else dnup (sw Q i (Q.length - 1)) i (Q.length - 1)).dropLast
def popQ (Q : List Tm) : List Tm := (dnQ (sw Q 0 (Q.length - 1)) 0 (Q.length - 1)).1.dropLast
theorem dn_len (Q : List Tm) (i n : Nat) : (dnQ Q i n).1.length = Q.length := (dn_snd n (n - i) i Q (Nat.le_refl _)).2.1
theorem dnup_len (Q : List Tm) (i n : Nat) : (dnup Q i n).length = Q.length := by
  unfold dnup
  split
  · exact dn_len Q i n
  · rw [up_len, dn_len]
/-- The last is taken off. -/
theorem qPopL {w : World} {X : Nat} {F : Nat → Prop} {Q : List Tm} {v : Value} {mv : Option Nat} (h : PT w X F Q v mv) (hn : 0 < Q.length) (hl : Q.length ≤ 1000) :
    Calls Try.prog 49 #[.pointer (some ⟨X, 0, none⟩)] w fun e w' => (∃ u, e = .returned u) ∧ (∃ v', PT w' X F Q.dropLast v' mv) ∧ Kf F w w' := by
  have hne : Q ≠ [] := by intro e; rw [e] at hn; simp at hn
  rw [← List.dropLast_concat_getLast hne] at h
  refine (qPop_any h (by rw [List.length_dropLast]; omega)).mono ?_
  rintro e w' ⟨rfl, h1, h2⟩
  exact ⟨⟨_, rfl⟩, h1, h2⟩
set_option maxRecDepth 100000 in
set_option maxHeartbeats 400000 in
theorem hFix_any {w : World} {X : Nat} {F : Nat → Prop} {Q : List Tm} {v : Value} {mv : Option Nat} (h : PT w X F Q v mv) {i : Nat} (hi : i < Q.length) (hl : Q.length ≤ 1000) :
    Calls Try.prog 22 #[hqI X, .int .i64 (i : Int)] w fun e w' => e = .returned (.tuple #[]) ∧ PT w' X F (dnup Q i Q.length) v mv ∧ Kf F w w' := by
  have hml := mt_len X
  have h1 := qLen_any h
  have h2 := hDown_any h (i0 := i) (Nat.le_of_lt (Nat.lt_of_lt_of_le hi hl)) (Nat.le_refl _) hl
  have h3 := fun (wz : World) (hz : PT wz X F (dnQ Q i Q.length).1 v mv) => hUp_any hz (j := i) (by rw [dn_len]; exact hi) (by rw [dn_len]; exact hl)
  unfold dnup
  clear h
  unfold hqI at *
  generalize Q.length = n at *
  by_cases hm : i < (dnQ Q i n).2
  · rw [if_pos hm]
    rw [decide_eq_true (show ((i : Int) < ((dnQ Q i n).2 : Int)) by omega)] at h2
    generalize dnQ Q i n = R at *
    clear h3
    go_enter Try.func22, Try.ntmps22
    go_wp2_with (first
      | (go_at_call 28; refine h1.mono ?_; rintro e w1 ⟨rfl, rfl⟩; clear h1)
      | (go_at_call 29; refine h2.mono ?_; rintro e w2 ⟨rfl, hP, hK⟩; have HH := hideD (And.intro hP hK); clear h2 hP hK)
      | fail)
    go_end0
    exact ⟨rfl, HH.out⟩
  · rw [if_neg hm]
    rw [decide_eq_false (show ¬ ((i : Int) < ((dnQ Q i n).2 : Int)) by omega)] at h2
    generalize dnQ Q i n = R at *
    go_enter Try.func22, Try.ntmps22
    go_wp2_with (first
      | (go_at_call 28; refine h1.mono ?_; rintro e w1 ⟨rfl, rfl⟩; clear h1)
      | (go_at_call 29; refine h2.mono ?_; rintro e w2 ⟨rfl, hP, hK⟩; have h4 := h3 _ hP; have HK := hideD hK; clear h2 hP hK h3)
      | (go_at_call 30; refine h4.mono ?_; rintro e w3 ⟨rfl, hP, hK⟩; have HH := hideD (And.intro hP (HK.out.trans hK)); clear h4 hP hK)
      | fail)
    go_end0
    exact ⟨rfl, HH.out⟩
set_option maxRecDepth 100000 in
set_option maxHeartbeats 400000 in
theorem hPush_any {w : World} {X : Nat} {F : Nat → Prop} {Q : List Tm} {v : Value} {mv : Option Nat} (h : PT w X F Q v mv) {x : Tm} (hx : ∀ i, i < Q.length → (tg Q i).1 ≠ x.1) (hs : x.1.size ≤ 1000) (hl : Q.length ≤ 999) :
    Calls Try.prog 23 #[hqI X, .iface 56 (.agg #[.string x.1, .int .i64 x.2])] w fun e w' => e = .returned (.tuple #[]) ∧ (∃ v' mv', PT w' X (nF F w) (upQ (Q ++ [x]) Q.length) v' mv') ∧ Kf F w w' := by
  have hmp := mt_push X
  have hml := mt_len X
  have h1 := qPush_any h hx hs (by omega)
  have h2 := fun (wz : World) (v' : Value) (mv' : Option Nat) (hz : PT wz X (nF F w) (Q ++ [x]) v' mv') => And.intro (qLen_any hz) (hUp_any hz (j := Q.length) (by simp) (by simp; omega))
  simp only [List.length_append, List.length_singleton] at h2
  have hw : wrap64 (((Q.length + 1 : Nat) : Int) - 1) = (Q.length : Int) := by unfold wrap64; omega
  clear h
  unfold hqI at *
  generalize Q.length = n at *
  go_enter Try.func23, Try.ntmps23
  go_wp2_with (first
    | (go_at_call 50; refine h1.mono ?_; rintro e w1 ⟨rfl, ⟨v1, mv1, hP⟩, hK⟩; obtain ⟨h3, h4⟩ := h2 _ _ _ hP; have HK := hideD hK; clear h1 hP hK h2)
    | (go_at_call 28; refine h3.mono ?_; rintro e w2 ⟨rfl, rfl⟩; clear h3)
    | (go_at_call 30; refine h4.mono ?_; rintro e w3 ⟨rfl, hP, hK⟩; have HH := hideD (And.intro hP hK); clear h4 hP hK)
    | fail)
  go_end0
  exact ⟨rfl, ⟨_, _, HH.out.1⟩, HK.out.transN HH.out.2⟩
set_option maxRecDepth 100000 in
set_option maxHeartbeats 400000 in
theorem hRemove_any {w : World} {X : Nat} {F : Nat → Prop} {Q : List Tm} {v : Value} {mv : Option Nat} (h : PT w X F Q v mv) {i : Nat} (hi : i < Q.length) (hl : Q.length ≤ 1000) :
    Calls Try.prog 26 #[hqI X, .int .i64 (i : Int)] w fun e w' => (∃ u, e = .returned u) ∧ (∃ v', PT w' X F (remQ Q i) v' mv) ∧ Kf F w w' := by
  have hml := mt_len X
  have hmp := mt_pop X
  have hms := mt_swap X
  have h1 := qLen_any h
  obtain ⟨n, hn⟩ : ∃ n, Q.length = n + 1 := ⟨Q.length - 1, by omega⟩
  have hnb : n ≤ 1000 := by omega
  have hw : wrap64 (((n + 1 : Nat) : Int) - 1) = (n : Int) := by unfold wrap64; omega
  unfold remQ
  rw [hn] at h1 ⊢
  rw [Nat.add_sub_cancel]
  by_cases he : i = n
  · rw [if_pos he]
    have h2 := qPopL h (by omega) hl
    subst he
    clear h hi hn
    unfold hqI at *
    go_enter Try.func26, Try.ntmps26
    go_wp2_with (first
      | (go_at_call 28; refine h1.mono ?_; rintro e w1 ⟨rfl, rfl⟩; clear h1)
      | (go_at_call 49; refine h2.mono ?_; rintro e w2 ⟨⟨u, rfl⟩, hP, hK⟩; have HH := hideD (And.intro hP hK); clear h2 hP hK)
      | fail)
    go_ret
    exact ⟨⟨_, rfl⟩, HH.out⟩
  · rw [if_neg he]
    have hne : ¬ (n : Int) = (i : Int) := by omega
    have hne' : ¬ (i : Int) = (n : Int) := by omega
    have hin : i < n := by omega
    have h2 := qSwap_any h hi (b := n) (by omega) hl
    have hsl := sw_len Q i n
    generalize sw Q i n = S at *
    rw [hn] at hsl
    have h3 := fun (wz : World) (hz : PT wz X F S v mv) => hDown_any hz (i0 := i) (n := n) (by omega) (by omega) (by omega)
    have h4 := fun (wz : World) (hz : PT wz X F (dnQ S i n).1 v mv) => hUp_any hz (j := i) (by rw [dn_len]; omega) (by rw [dn_len]; omega)
    have h5 := fun (wz : World) (hz : PT wz X F (dnup S i n) v mv) => qPopL hz (by rw [dnup_len]; omega) (by rw [dnup_len]; omega)
    have HE := hideD (dnup_len S i n)
    clear h hi hn hsl he
    unfold hqI at *
    by_cases hm : i < (dnQ S i n).2
    · rw [decide_eq_true (show ((i : Int) < ((dnQ S i n).2 : Int)) by omega)] at h3
      have ed : dnup S i n = (dnQ S i n).1 := by unfold dnup; rw [if_pos hm]
      rw [ed] at h5 ⊢
      clear HE ed hm
      generalize dnQ S i n = R at *
      clear h4
      go_enter Try.func26, Try.ntmps26
      go_wp2_with (first
        | (go_at_call 28; refine h1.mono ?_; rintro e w1 ⟨rfl, rfl⟩; clear h1)
        | (go_at_call 51; refine h2.mono ?_; rintro e w2 ⟨rfl, hP, hK⟩; have h3 := h3 _ hP; have HK := hideD hK; clear h2 hP hK)
        | (go_at_call 29; refine h3.mono ?_; rintro e w3 ⟨rfl, hP, hK⟩; have h5 := h5 _ hP; have HK := hideD (HK.out.trans hK); clear h3 hP hK)
        | (go_at_call 49; refine h5.mono ?_; rintro e w4 ⟨⟨u, rfl⟩, hP, hK⟩; have HH := hideD (And.intro hP (HK.out.trans hK)); clear h5 hP hK)
        | fail)
      go_ret
      exact ⟨⟨_, rfl⟩, HH.out⟩
    · rw [decide_eq_false (show ¬ ((i : Int) < ((dnQ S i n).2 : Int)) by omega)] at h3
      have ed : dnup S i n = upQ (dnQ S i n).1 i := by unfold dnup; rw [if_neg hm]
      rw [ed] at h5 ⊢
      clear HE ed hm
      generalize dnQ S i n = R at *
      go_enter Try.func26, Try.ntmps26
      go_wp2_with (first
        | (go_at_call 28; refine h1.mono ?_; rintro e w1 ⟨rfl, rfl⟩; clear h1)
        | (go_at_call 51; refine h2.mono ?_; rintro e w2 ⟨rfl, hP, hK⟩; have h3 := h3 _ hP; have HK := hideD hK; clear h2 hP hK)
        | (go_at_call 29; refine h3.mono ?_; rintro e w3 ⟨rfl, hP, hK⟩; have h4 := h4 _ hP; have HK := hideD (HK.out.trans hK); clear h3 hP hK)
        | (go_at_call 30; refine h4.mono ?_; rintro e w4 ⟨rfl, hP, hK⟩; have h5 := h5 _ hP; have HK := hideD (HK.out.trans hK); clear h4 hP hK)
        | (go_at_call 49; refine h5.mono ?_; rintro e w5 ⟨⟨u, rfl⟩, hP, hK⟩; have HH := hideD (And.intro hP (HK.out.trans hK)); clear h5 hP hK)
        | fail)
      go_ret
      exact ⟨⟨_, rfl⟩, HH.out⟩
set_option maxRecDepth 100000 in
set_option maxHeartbeats 400000 in
theorem hPop_any {w : World} {X : Nat} {F : Nat → Prop} {Q : List Tm} {v : Value} {mv : Option Nat} (h : PT w X F Q v mv) (hi : 0 < Q.length) (hl : Q.length ≤ 1000) :
    Calls Try.prog 27 #[hqI X] w fun e w' => (∃ u, e = .returned u) ∧ (∃ v', PT w' X F (popQ Q) v' mv) ∧ Kf F w w' := by
  have hml := mt_len X
  have hmp := mt_pop X
  have hms := mt_swap X
  have h1 := qLen_any h
  obtain ⟨n, hn⟩ : ∃ n, Q.length = n + 1 := ⟨Q.length - 1, by omega⟩
  have hnb : n ≤ 1000 := by omega
  have hw : wrap64 (((n + 1 : Nat) : Int) - 1) = (n : Int) := by unfold wrap64; omega
  unfold popQ
  rw [hn] at h1 ⊢
  rw [Nat.add_sub_cancel]
  have h2 := qSwap_any h hi (b := n) (by omega) hl
  have hsl := sw_len Q 0 n
  generalize sw Q 0 n = S at *
  rw [hn] at hsl
  have h3 := fun (wz : World) (hz : PT wz X F S v mv) => hDown_any hz (i0 := 0) (n := n) (by omega) (by omega) (by omega)
  have h5 := fun (wz : World) (hz : PT wz X F (dnQ S 0 n).1 v mv) => qPopL hz (by rw [dn_len]; omega) (by rw [dn_len]; omega)
  clear h hi hn hsl
  unfold hqI at *
  generalize dnQ S 0 n = R at *
  generalize decide ((((0 : Nat) : Int)) < (R.2 : Int)) = bz at *
  go_enter Try.func27, Try.ntmps27
  go_wp2_with (first
    | (go_at_call 28; refine h1.mono ?_; rintro e w1 ⟨rfl, rfl⟩; clear h1)
    | (go_at_call 51; refine h2.mono ?_; rintro e w2 ⟨rfl, hP, hK⟩; have h3 := h3 _ hP; have HK := hideD hK; clear h2 hP hK)
    | (go_at_call 29; refine h3.mono ?_; rintro e w3 ⟨rfl, hP, hK⟩; have h5 := h5 _ hP; have HK := hideD (HK.out.trans hK); clear h3 hP hK)
    | (go_at_call 49; refine h5.mono ?_; rintro e w4 ⟨⟨u, rfl⟩, hP, hK⟩; have HH := hideD (And.intro hP (HK.out.trans hK)); clear h5 hP hK)
    | fail)
  go_ret
  exact ⟨⟨_, rfl⟩, HH.out⟩
end Go.Proofs.Ytdificdnicdnnaa

/- What strings.Clone does: the same bytes. -/
namespace Go.Proofs.Ytdificdnicdnnaa
open Go.Shelf Go.RowKit Go.Lib
set_option linter.unusedSimpArgs false
set_option linter.unusedVariables false

def renC : Ren := { f := fun x => match x with | 316 => 31 | n => n, t := fun x => match x with | 9 => 9 | 3 => 3 | 4 => 4 | 37 => 71 | 0 => 0 | 127 => 72 | 5 => 5 | n => n, g := fun x => x }
theorem laysC : LaysM.n316 Try.prog renC :=
  { mixed := by kernel_rfl, f316 := Try.func31.trans (congrArg some (by kernel_rfl)),
    t0 := Try.underlying0, a0 := Try.isAgg0, z0 := Try.sizeOf0, v0 := Try.zeroValue0, t3 := Try.underlying3, a3 := Try.isAgg3, z3 := Try.sizeOf3, v3 := Try.zeroValue3, t4 := Try.underlying4, a4 := Try.isAgg4, z4 := Try.sizeOf4, v4 := Try.zeroValue4,
    t9 := Try.underlying9, a9 := Try.isAgg9, z9 := Try.sizeOf9, v9 := Try.zeroValue9, t37 := Try.underlying71, a37 := Try.isAgg71, z37 := Try.sizeOf71, v37 := Try.zeroValue71,
    t127 := Try.underlying72, a127 := Try.isAgg72, z127 := Try.sizeOf72, v127 := Try.zeroValue72, t5 := Try.underlying5, a5 := Try.isAgg5, z5 := Try.sizeOf5, v5 := Try.zeroValue5,
    i0 := by kernel_rfl, i3 := by kernel_rfl, i4 := by kernel_rfl, i5 := by kernel_rfl, i9 := by kernel_rfl, i37 := by kernel_rfl, i127 := by kernel_rfl }
theorem pClone_any (s : ByteArray) (w : World) (hs : s.size ≤ 140737488351232) :
    Calls Try.prog 24 #[.string s] w fun e w' => e = .returned (.string s) ∧ Below w.heap.size w w' := by
  have h1 : Calls Try.prog 31 #[.string s] w fun e w' => e = .returned (.string s) ∧ Below w.heap.size w w' := Any.stringslite_Clone laysC s w (by omega)
  go_enter Try.func24, Try.ntmps24
  go_wp2_with (first
    | (go_at_call 31; refine h1.mono ?_; rintro e w1 ⟨rfl, b1⟩))
  go_ret
  exact ⟨rfl, b1⟩

end Go.Proofs.Ytdificdnicdnnaa

/- The program's timers: New, Len, Next, find, Due, and what nil ones answer. -/
namespace Go.Proofs.Ytdificdnicdnnaa
open Go.RowKit Go.Lib Go.Maps
set_option linter.unusedSimpArgs false
set_option linter.unusedVariables false
attribute [local go_sem ↓] Go.wp_at_zero Go.wp_at_succ

theorem pt_new (w : World) : PT (w.alloc (.cells #[.slice none 0 0, .map none] 38)) w.heap.size (fun j => j = w.heap.size) [] (.slice none 0 0) none :=
  ⟨rfl, Bn.new w [.slice none 0 0, .map none] _ _ rfl, World.ownsRow_nil _ 0 56 2, fun g hg => (by simp [Value.ownBlock] at hg), .inl ⟨rfl, rfl⟩, fun b hb => (by cases hb), fun x hx => (by simp at hx)⟩
theorem tNew_any (w : World) : Calls Try.prog 10 #[] w fun e w' => e = .returned (.pointer (some ⟨w.heap.size, 0, none⟩)) ∧ PT w' w.heap.size (fun j => j = w.heap.size) [] (.slice none 0 0) none ∧ Below w.heap.size w w' := by
  have hp := hideD (pt_new w)
  go_enter Try.func10, Try.ntmps10
  go_wp2
  go_ret
  exact ⟨rfl, hp.out, (Below.refl _ _).alloc (Nat.le_refl _) _⟩
theorem tLen_any {w : World} {X : Nat} {F : Nat → Prop} {Q : List Tm} {v : Value} {mv : Option Nat} (h : PT w X F Q v mv) :
    Calls Try.prog 21 #[.pointer (some ⟨X, 0, none⟩)] w fun e w' => e = .returned (.int .i64 (Q.length : Int)) ∧ w' = w := by
  have h1 := qLen_any h
  clear h
  go_enter Try.func21, Try.ntmps21
  go_wp2_with (first
    | (go_at_call 28; refine h1.mono ?_; rintro e w1 ⟨rfl, rfl⟩; clear h1)
    | fail)
  go_ret
  exact ⟨rfl, rfl⟩
def nxQ (Q : List Tm) : Int := if Q = [] then 0 else (tg Q 0).2
theorem tNext_any {w : World} {X : Nat} {F : Nat → Prop} {Q : List Tm} {v : Value} {mv : Option Nat} (h : PT w X F Q v mv) :
    Calls Try.prog 20 #[.pointer (some ⟨X, 0, none⟩)] w fun e w' => e = .returned (.tuple #[.int .i64 (nxQ Q), .bool (decide (0 < Q.length))]) ∧ w' = w := by
  have h1 := tLen_any h
  unfold nxQ
  by_cases hn : 0 < Q.length
  · have hne : ¬ Q = [] := by intro e; rw [e] at hn; simp at hn
    rw [if_neg hne, decide_eq_true hn]
    obtain ⟨g, cap, rfl, hcl, hcm, hgl, hc, hfz⟩ := h.at hn
    obtain ⟨a0, a1⟩ := hc 0 hn
    obtain ⟨c0, f0⟩ := h.c 0 _ rfl
    have e1 : ¬ (Q.length : Int) = 0 := by omega
    have i3 : (0 : Int) < (Q.length : Int) := by omega
    clear h hc hfz hne
    go_enter Try.func20, Try.ntmps20
    go_wp2_with (first
      | (go_at_call 21; refine h1.mono ?_; rintro e w1 ⟨rfl, rfl⟩; clear h1)
      | fail)
    go_ret2
    exact ⟨rfl, rfl⟩
  · have he : Q = [] := List.eq_nil_of_length_eq_zero (by omega)
    rw [if_pos he, decide_eq_false hn]
    have e1 : (Q.length : Int) = 0 := by omega
    rw [e1] at h1
    clear h he hn e1
    go_enter Try.func20, Try.ntmps20
    go_wp2_with (first
      | (go_at_call 21; refine h1.mono ?_; rintro e w1 ⟨rfl, rfl⟩; clear h1)
      | fail)
    go_ret2
    exact ⟨rfl, rfl⟩
theorem tFind_hit {w : World} {X : Nat} {F : Nat → Prop} {Q : List Tm} {v : Value} {mv : Option Nat} (h : PT w X F Q v mv) {i : Nat} (hi : i < Q.length) :
    Calls Try.prog 25 #[.pointer (some ⟨X, 0, none⟩), .string (tg Q i).1] w fun e w' => e = .returned (.tuple #[.int .i64 (i : Int), .bool true]) ∧ w' = w := by
  have hl := h.m.hit hi (h.s _ (tg_mem hi))
  obtain ⟨c1, f1⟩ := h.c 1 _ rfl
  generalize (tg Q i).1 = k at *
  clear h
  go_enter Try.func25, Try.ntmps25
  go_wp2
  go_ret2
  exact ⟨rfl, rfl⟩
theorem tFind_miss {w : World} {X : Nat} {F : Nat → Prop} {Q : List Tm} {v : Value} {mv : Option Nat} (h : PT w X F Q v mv) {k : ByteArray} (hs : k.size ≤ 1000) (hn : ∀ i, i < Q.length → (tg Q i).1 ≠ k) :
    Calls Try.prog 25 #[.pointer (some ⟨X, 0, none⟩), .string k] w fun e w' => e = .returned (.tuple #[.int .i64 0, .bool false]) ∧ w' = w := by
  have hl := h.m.miss hs hn
  obtain ⟨c1, f1⟩ := h.c 1 _ rfl
  clear h hn
  go_enter Try.func25, Try.ntmps25
  go_wp2
  go_ret2
  exact ⟨rfl, rfl⟩
theorem tDue_miss {w : World} {X : Nat} {F : Nat → Prop} {Q : List Tm} {v : Value} {mv : Option Nat} (h : PT w X F Q v mv) {k : ByteArray} (hs : k.size ≤ 1000) (hn : ∀ i, i < Q.length → (tg Q i).1 ≠ k) :
    Calls Try.prog 18 #[.pointer (some ⟨X, 0, none⟩), .string k] w fun e w' => e = .returned (.tuple #[.int .i64 0, .bool false]) ∧ w' = w := by
  have h1 := tFind_miss h hs hn
  clear h hn
  go_enter Try.func18, Try.ntmps18
  go_wp2_with (first
    | (go_at_call 25; refine h1.mono ?_; rintro e w1 ⟨rfl, rfl⟩; clear h1)
    | fail)
  go_ret2
  exact ⟨rfl, rfl⟩
theorem tDue_hit {w : World} {X : Nat} {F : Nat → Prop} {Q : List Tm} {v : Value} {mv : Option Nat} (h : PT w X F Q v mv) {i : Nat} (hi : i < Q.length) :
    Calls Try.prog 18 #[.pointer (some ⟨X, 0, none⟩), .string (tg Q i).1] w fun e w' => e = .returned (.tuple #[.int .i64 (tg Q i).2, .bool true]) ∧ w' = w := by
  have h1 := tFind_hit h hi
  obtain ⟨g, cap, rfl, hcl, hcm, hgl, hc, hfz⟩ := h.at (by omega)
  obtain ⟨a0, a1⟩ := hc i hi
  obtain ⟨c0, f0⟩ := h.c 0 _ rfl
  have i1 : (0 : Int) ≤ (i : Int) := by omega
  have i3 : (i : Int) < (Q.length : Int) := by omega
  clear h hc hfz a0
  generalize (tg Q i).1 = k at *
  go_enter Try.func18, Try.ntmps18
  go_wp2_with (first
    | (go_at_call 25; refine h1.mono ?_; rintro e w1 ⟨rfl, rfl⟩; clear h1)
    | fail)
  go_ret2
  exact ⟨rfl, rfl⟩
theorem tStop_miss {w : World} {X : Nat} {F : Nat → Prop} {Q : List Tm} {v : Value} {mv : Option Nat} (h : PT w X F Q v mv) {k : ByteArray} (hs : k.size ≤ 1000) (hn : ∀ i, i < Q.length → (tg Q i).1 ≠ k) :
    Calls Try.prog 13 #[.pointer (some ⟨X, 0, none⟩), .string k] w fun e w' => e = .returned (.bool false) ∧ w' = w := by
  have h1 := tFind_miss h hs hn
  clear h hn
  go_enter Try.func13, Try.ntmps13
  go_wp2_with (first
    | (go_at_call 25; refine h1.mono ?_; rintro e w1 ⟨rfl, rfl⟩; clear h1)
    | fail)
  go_ret
  exact ⟨rfl, rfl⟩
theorem tStop_hit {w : World} {X : Nat} {F : Nat → Prop} {Q : List Tm} {v : Value} {mv : Option Nat} (h : PT w X F Q v mv) {i : Nat} (hi : i < Q.length) (hl : Q.length ≤ 1000) :
    Calls Try.prog 13 #[.pointer (some ⟨X, 0, none⟩), .string (tg Q i).1] w fun e w' => e = .returned (.bool true) ∧ (∃ v', PT w' X F (remQ Q i) v' mv) ∧ Kf F w w' := by
  have h1 := tFind_hit h hi
  have h2 := hRemove_any h hi hl
  unfold hqI at h2
  clear h
  generalize (tg Q i).1 = k at *
  generalize remQ Q i = R at *
  go_enter Try.func13, Try.ntmps13
  go_wp2_with (first
    | (go_at_call 25; refine h1.mono ?_; rintro e w1 ⟨rfl, rfl⟩; clear h1)
    | (go_at_call 26; refine h2.mono ?_; rintro e w2 ⟨⟨u, rfl⟩, hP, hK⟩; have HH := hideD (And.intro hP hK); clear h2 hP hK)
    | fail)
  go_ret
  exact ⟨rfl, HH.out⟩

theorem PT.due {w : World} {X : Nat} {F : Nat → Prop} {Q : List Tm} {g cap : Nat} {mv : Option Nat} (h : PT w X F Q (.slice (some ⟨g, 0, none⟩) Q.length cap) mv) {i : Nat} (hi : i < Q.length) (d : Int) :
    PT (w.setCell ⟨g, i * 2 + 1, none⟩ (.int .i64 d)) X F (Q.set i ((tg Q i).1, d)) (.slice (some ⟨g, 0, none⟩) Q.length cap) mv ∧ Kf F w (w.setCell ⟨g, i * 2 + 1, none⟩ (.int .i64 d)) := by
  have hFg := h.oo g rfl
  obtain ⟨o1, n1⟩ := h.o.stored (i * 2 + 1) (.int .i64 d)
  rw [celT_setD d hi] at o1
  refine ⟨⟨h.x, h.c.far hFg.2 _, by rw [List.length_set]; exact o1, h.oo, ?_, h.mm, fun x hx => ?_⟩, (Kf.refl F w).set hFg.1 _⟩
  · rcases h.m with ⟨_, e⟩ | ⟨b, D, rfl, hp, ho⟩
    · rw [e] at hi
      simp at hi
    · refine .inr ⟨b, D, rfl, hp.due hi d, ?_⟩
      rw [List.length_set]
      exact ho.setCell (fun e => (h.mm b rfl).2.2 (by simp only [Value.ownBlock]; rw [e])) _
  · rcases List.mem_or_eq_of_mem_set hx with hx | rfl
    · exact h.s x hx
    · exact h.s (tg Q i) (tg_mem hi)
def setQ (Q : List Tm) (i : Nat) (d : Int) : List Tm := dnup (Q.set i ((tg Q i).1, d)) i Q.length
set_option maxRecDepth 100000 in
set_option maxHeartbeats 1000000 in
theorem tSet_hit {w : World} {X : Nat} {F : Nat → Prop} {Q : List Tm} {v : Value} {mv : Option Nat} (h : PT w X F Q v mv) {i : Nat} (hi : i < Q.length) (hl : Q.length ≤ 1000) (d : Int) :
    Calls Try.prog 11 #[.pointer (some ⟨X, 0, none⟩), .string (tg Q i).1, .int .i64 d] w fun e w' => e = .returned (.tuple #[]) ∧ (∃ v' mv', PT w' X F (setQ Q i d) v' mv') ∧ Kf F w w' := by
  have h1 := h.m.hit hi (h.s _ (tg_mem hi))
  obtain ⟨g, cap, rfl, hcl, hcm, hgl, hc, hfz⟩ := h.at (by omega)
  obtain ⟨a0, a1⟩ := hc i hi
  have fa1 := hfz (i * 2 + 1)
  obtain ⟨c0, f0⟩ := h.c 0 _ rfl
  obtain ⟨c1, f1⟩ := h.c 1 _ rfl
  obtain ⟨hP, hK⟩ := h.due hi d
  have h2 := hFix_any hP (i := i) (by rw [List.length_set]; exact hi) (by rw [List.length_set]; exact hl)
  rw [List.length_set] at h2
  unfold hqI at h2
  have i1 : (0 : Int) ≤ (i : Int) := by omega
  have i3 : (i : Int) < (Q.length : Int) := by omega
  unfold setQ
  have HK := hideD hK
  clear h hc hfz hP hK a0
  generalize (tg Q i).1 = k at *
  generalize dnup (Q.set i (k, d)) i Q.length = R at *
  go_enter Try.func11, Try.ntmps11
  go_wp2_with (first
    | (go_at_call 22; refine h2.mono ?_; rintro e w2 ⟨rfl, hP, hK⟩; have HH := hideD (And.intro hP (HK.out.trans hK)); clear h2 hP hK)
    | fail)
  refine bodyPost_ret (results_none rfl _ _ _) rfl ?_
  exact ⟨rfl, ⟨_, _, HH.out.1⟩, HH.out.2⟩
def addQ (Q : List Tm) (x : Tm) : List Tm := upQ (Q ++ [x]) Q.length
set_option maxRecDepth 100000 in
set_option maxHeartbeats 1000000 in
theorem tSet_miss {w : World} {X : Nat} {F : Nat → Prop} {Q : List Tm} {v : Value} {mv : Option Nat} (h : PT w X F Q v mv) {k : ByteArray} (hs : k.size ≤ 1000) (hn : ∀ i, i < Q.length → (tg Q i).1 ≠ k) (hl : Q.length ≤ 900) (d : Int) :
    Calls Try.prog 11 #[.pointer (some ⟨X, 0, none⟩), .string k, .int .i64 d] w fun e w' => e = .returned (.tuple #[]) ∧ (∃ v' mv', PT w' X (nF F w) (addQ Q (k, d)) v' mv') ∧ Kf F w w' := by
  have h1 := h.m.miss hs hn
  obtain ⟨c1, f1⟩ := h.c 1 _ rfl
  have h2 := pClone_any k w.drew (by omega)
  have h3 := fun (wz : World) (hb : Below w.heap.size w wz) => hPush_any (h.on hb) (x := (k, d)) hn hs (by omega)
  unfold hqI at h3
  unfold addQ
  clear h hn
  go_enter Try.func11, Try.ntmps11
  go_wp2
  go_region_held (fun w1 => True) (exact trivial) (first
    | (go_at_call 24; refine h2.mono ?_; rintro e w1 ⟨rfl, hb⟩; have hb1 := ((Below.refl w.heap.size w).drew).trans hb; have h4 := h3 _ hb1; have HB := hideD hb1; clear h2 h3 hb hb1)
    | (go_at_call 23; refine h4.mono ?_; rintro e w2 ⟨rfl, ⟨v2, mv2, hP⟩, hK⟩; have HP := hideD hP; have HK := hideD ((Kf.of (F := F) HB.out (Nat.le_refl _)).trans hK); clear h4 hP hK)
    | fail)
  all_goals (
    go_end0
    refine ⟨rfl, ⟨_, _, HP.out.keep (fun _ _ _ => rfl) (fun j _ hj => ?_)⟩, HK.out⟩
    rcases hj with hj | hj
    · exact .inl hj
    · exact .inr (Nat.le_trans HB.out.size hj))

theorem pop_len (Q : List Tm) : (popQ Q).length = Q.length - 1 := by unfold popQ; rw [List.length_dropLast, dn_len, sw_len]
/-- What Take answers, and what it leaves. -/
def takQ (now : Int) : Nat → List Tm → List ByteArray × List Tm
  | 0, Q => ([], Q)
  | n + 1, Q => if (tg Q 0).2 ≤ now then ((tg Q 0).1 :: (takQ now n (popQ Q)).1, (takQ now n (popQ Q)).2) else ([], Q)
def cT (F : Nat → Prop) (w : World) : Nat → Prop := fun j => F j ∧ j < w.heap.size
theorem Try.infoStr : (Try.prog.info? 9).map (fun i => (i.zero, i.size, i.bytes)) = some (some (.string ByteArray.empty), 1, 16) := by kernel_rfl
theorem srow_form {w : World} {base e k n : Nat} {v : Value} {xs : List Value} (h : w.ownsRow base e k v n xs) : ∃ a cap, v = .slice a n cap ∧ n ≤ cap ∧ cap ≤ maxLen := by
  rcases h.2 with ⟨h1, h2⟩ | ⟨g, cap, cur, h1, _, _, h3, h4, _⟩
  · exact ⟨none, 0, by rw [h1, h2], by omega, by simp [maxLen]⟩
  · exact ⟨_, _, h1, h3, h4⟩
theorem src_str (t : TypeId) (ht : Try.prog.underlying t = some (.slice 9)) (wa : World) (s : ByteArray) : Src Try.prog 1 t (.slice (some ⟨wa.heap.size, 0, none⟩) 1 1) 1 [.string s] (wa.alloc (.cells #[.string s] 9)) := by
  refine Src.ofSlice _ ht _ 1 1 _ rfl (fun j u hj => ?_) (fun u hu => ?_)
  · rw [add_plain, Nat.zero_add]
    have hB : Bn (wa.alloc (.cells #[.string s] 9)) wa.heap.size [.string s] := Bn.new wa [.string s] _ _ rfl
    exact (hB j u hj).1
  · rcases List.mem_singleton.1 hu with rfl
    rfl
def lenV (v : Value) : Nat := match v with | .slice _ n _ => n | _ => 0
set_option maxRecDepth 100000 in
set_option maxHeartbeats 2000000 in
theorem tTake_any {w : World} {X : Nat} {F : Nat → Prop} {Q : List Tm} {v : Value} {mv : Option Nat} (h : PT w X F Q v mv) (hl : Q.length ≤ 1000) (now : Int) :
    Calls Try.prog 16 #[.pointer (some ⟨X, 0, none⟩), .int .i64 now] w fun e w' => ∃ kv, e = .returned kv ∧ w'.ownsRow w.heap.size 9 1 kv (takQ now Q.length Q).1.length ((takQ now Q.length Q).1.map Value.string) ∧ (∃ v', PT w' X F (takQ now Q.length Q).2 v' mv) ∧ Kf F w w' := by
  obtain ⟨K, hK⟩ : ∃ K, (takQ now Q.length Q).1 = K := ⟨_, rfl⟩
  obtain ⟨R, hR⟩ : ∃ R, (takQ now Q.length Q).2 = R := ⟨_, rfl⟩
  rw [hK, hR]
  have hc : PT w X (cT F w) Q v mv := h.keep (fun _ _ _ => rfl) (fun j hj hf => ⟨hf, hj⟩)
  have h1 := tNext_any hc
  have H0 := hideD hc
  have HKR := hideD (And.intro hK hR)
  have HL := hideD hl
  obtain ⟨ii, hi, hi0, hi1, hi2⟩ := inf_getT Try.infoStr
  clear h hc hK hR hl
  generalize hnx : nxQ Q = d0 at *
  generalize hnb : decide (0 < Q.length) = b0 at *
  have HN := hideD (And.intro hnx hnb)
  clear hnx hnb
  go_enter Try.func16, Try.ntmps16
  go_wp2_with (first
    | (go_at_call 20; refine h1.mono ?_; rintro e w ⟨rfl, rfl⟩; clear h1)
    | fail)
  go_loopw [5, 6, 7] (fun ks d ok wr => ∃ (acc : List ByteArray) (P : List Tm) (vp : Value), d = .int .i64 (nxQ P) ∧ ok = .bool (decide (0 < P.length)) ∧ acc.length + P.length = Q.length ∧ acc ++ (takQ now P.length P).1 = K ∧ (takQ now P.length P).2 = R ∧
    wr.ownsRow w.heap.size 9 1 ks acc.length (acc.map Value.string) ∧ PT wr X (cT F w) P vp mv ∧ Kf (cT F w) w wr) (fun ks _ _ _ => Q.length - lenV ks)
  case atStart => exact ⟨[], Q, _, by rw [HN.out.1], by rw [HN.out.2], by simp, HKR.out.1, HKR.out.2, World.ownsRow_nil _ _ 9 1, H0.out, Kf.refl _ _⟩
  case round =>
    obtain ⟨acc, P, vp, rfl, rfl, hlen, hk, hr, hO, hP, hKf⟩ := hrel
    clear H0 HKR HN
    have hPl : P.length ≤ 1000 := by have := HL.out; omega
    by_cases hn : 0 < P.length
    · have hne : ¬ P = [] := by intro e; rw [e] at hn; simp at hn
      have e0 : nxQ P = (tg P 0).2 := by unfold nxQ; rw [if_neg hne]
      rw [e0, decide_eq_true hn]
      obtain ⟨m, hm⟩ : ∃ m, P.length = m + 1 := ⟨P.length - 1, by omega⟩
      rw [hm] at hk hr
      unfold takQ at hk hr
      by_cases hd : (tg P 0).2 ≤ now
      · rw [if_pos hd] at hk hr
        obtain ⟨g, cap, rfl, hcl, hcm, hgl, hc, hfz⟩ := hP.at hn
        obtain ⟨a0, a1⟩ := hc 0 hn
        obtain ⟨c0, f0⟩ := hP.c 0 _ rfl
        have i3 : (0 : Int) < (P.length : Int) := by omega
        obtain ⟨ka, kc, rfl, hal, ham⟩ := srow_form hO
        unfold maxLen at ham
        have hws : w.heap.size ≤ wr.heap.size := hKf.size
        have hsrc := src_str 44 Try.underlying44 wr (tg P 0).1
        have hown := World.ownsRow.alloc hO (.cells #[.string (tg P 0).1] 9)
        have HF : ∀ v' wb, wb.ownsRow w.heap.size 9 1 v' (acc.length + 1) (acc.map Value.string ++ [.string (tg P 0).1]) → (wr.alloc (.cells #[.string (tg P 0).1] 9)).grownBy wb (Value.slice ka acc.length kc).ownBlock →
            wb.ownsRow w.heap.size 9 1 v' (acc ++ [(tg P 0).1]).length ((acc ++ [(tg P 0).1]).map Value.string) ∧ PT wb X (cT F w) P (.slice (some ⟨g, 0, none⟩) P.length cap) mv ∧ Kf (cT F w) w wb := fun v' wb h1 h2 => by
          have hb : Below w.heap.size wr wb := ((Below.refl w.heap.size wr).alloc hws _).grown h2 (by simp; omega) (fun k hk => (ownsRow_lt hO k hk).1)
          refine ⟨by rw [List.length_append, List.map_append]; exact h1, hP.keep (fun b hb2 _ => hb.block b hb2.2) (fun _ _ hj => hj), ⟨hb.os.trans hKf.os, hb.tape.trans hKf.tape, hb.output.trans hKf.output, Nat.le_trans hKf.size hb.size, fun k hk hnk => (hb.block k hk).trans (hKf.block k hk hnk)⟩⟩
        have hpop := fun (wz : World) (hz : PT wz X (cT F w) P (.slice (some ⟨g, 0, none⟩) P.length cap) mv) => hPop_any hz hn hPl
        have hpl : (popQ P).length = m := by rw [pop_len]; omega
        have hnx := fun (wz : World) (v' : Value) (hz : PT wz X (cT F w) (popQ P) v' mv) => tNext_any hz
        unfold hqI at hpop
        have HF := hideD HF
        have HK := hideD (And.intro hk hr)
        have HLN := hideD (And.intro hlen hm)
        have HPL := hideD hpl
        have hal1 : acc.length ≤ 1000 := by have := HL.out; omega
        have hkc : acc.length + 1 ≤ maxLen := by unfold maxLen; have := HL.out; omega
        have HW := hideD hws
        clear hk hr hlen hP hKf hO hcl hcm hgl hc hfz hpl hne e0
        generalize hky : (tg P 0).1 = ky at *
        generalize hdd : (tg P 0).2 = d at *
        clear hky hdd
        generalize hPn : P.length = n at *
        clear hPn
        generalize hal' : acc.length = al at *
        have HAL := hideD hal'
        clear hal'
        generalize popQ P = P2 at *
        go_wp2_with (first
          | (at_builtin; refine wpList_append_at _ rfl _ _ 44 44 rfl w.heap.size 9 ii (.string ByteArray.empty) 1 16 Try.underlying44 hi hi0 hi1 hi2 rfl (.slice ka al kc) al _ rfl hown _ _ _ rfl hsrc 1 (.inr (by omega)) (Nat.le_refl _) hkc (by have := HW.out; simp; omega) ?_; intro vb wb hOb hgb hat; obtain ⟨hO2, hP2, hK2⟩ := HF.out vb wb hOb hgb; have hpop := hpop _ hP2; have HO2 := hideD (And.intro hO2 hK2); clear HF hOb hgb hat hP2 hO2 hK2)
          | (go_at_call 27; refine hpop.mono ?_; rintro e wc ⟨⟨u, rfl⟩, ⟨v3, hP3⟩, hK3⟩; have hnx := hnx _ _ hP3; have HP3 := hideD (And.intro hP3 hK3); clear hpop hP3 hK3)
          | (go_at_call 20; refine hnx.mono ?_; rintro e wd ⟨rfl, rfl⟩; clear hnx)
          | fail)
        have hO4 : wd.ownsRow w.heap.size 9 1 vb (acc ++ [ky]).length ((acc ++ [ky]).map Value.string) := ownsRow_keep HO2.out.1 (fun k hk => HP3.out.2.block k (ownsRow_lt HO2.out.1 k hk).2 (fun e => by have h1 := e.2; have h2 := (ownsRow_lt HO2.out.1 k hk).1; omega))
        obtain ⟨ka2, kc2, hvb, _, _⟩ := srow_form hO4
        have e1 := HK.out.1
        have e2 := HLN.out.1
        have e3 := HLN.out.2
        have e4 := HPL.out
        have e5 := HAL.out
        refine ⟨⟨acc ++ [ky], P2, v3, rfl, rfl, by simp; omega, ?_, ?_, hO4, HP3.out.1, HO2.out.2.trans HP3.out.2⟩, ?_⟩
        · rw [e4, ← e1]
          simp
        · rw [e4]
          exact HK.out.2
        · rw [hvb]
          simp only [lenV, List.length_append, List.length_singleton]
          omega
      · rw [if_neg hd] at hk hr
        rw [List.append_nil] at hk
        subst hk
        subst hr
        have HH := hideD (And.intro hO (And.intro hP hKf))
        clear hO hP hKf hn hne e0
        generalize (tg P 0).2 = d at *
        go_wp2
        go_ret
        exact ⟨_, rfl, HH.out.1, ⟨_, HH.out.2.1.keep (fun _ _ _ => rfl) (fun _ _ hj => hj.1)⟩, HH.out.2.2.mono (fun _ hj => hj.1)⟩
    · have he : P = [] := List.eq_nil_of_length_eq_zero (by omega)
      subst he
      have hk : acc ++ [] = K := hk
      rw [List.append_nil] at hk
      have hr : [] = R := hr
      subst hk
      subst hr
      rw [decide_eq_false hn]
      have HH := hideD (And.intro hO (And.intro hP hKf))
      clear hO hP hKf hn
      go_wp2
      go_ret
      exact ⟨_, rfl, HH.out.1, ⟨_, HH.out.2.1.keep (fun _ _ _ => rfl) (fun _ _ hj => hj.1)⟩, HH.out.2.2.mono (fun _ hj => hj.1)⟩
end Go.Proofs.Ytdificdnicdnnaa
