import Derived.Test.YtdificdnicdnnaaXjc03
import Derived.Deep.RegionLaw
import Derived.Deep.Cut
import Derived.Test.YtdificdnicdnnaaRows
import Derived.Test.YtdificdnicdnnaaXjc02
import Derived.Deep.Slices
import Derived.ProofKit
import Derived.OpenShut
import Derived.ShutString
import Derived.ChangeOld
import Derived.SizedLaws
import Derived.Below

/- The document's timers: Due, Stop. -/
namespace Go.Proofs.Ytdificdnicdnnaa
open Go.RowKit Go.Lib Go.Maps
set_option linter.unusedSimpArgs false
set_option linter.unusedVariables false
attribute [local go_sem ↓] Go.wp_at_zero Go.wp_at_succ

/-- The document's timers in block Y: a row of its own. -/
structure QT (w : World) (Y : Nat) (G : Nat → Prop) (L : List Tm) (v : Value) : Prop where
  y : G Y
  c : Bn w Y [v]
  o : w.ownsRow 0 51 2 v L.length (celT L)
  oo : ∀ g, v.ownBlock = some g → G g ∧ g ≠ Y
theorem QT.keep {w w' : World} {Y : Nat} {G H : Nat → Prop} {L : List Tm} {v : Value} (h : QT w Y G L v) (hk : ∀ b, G b → b < w.heap.size → w'.heap[b]? = w.heap[b]?) (hGH : ∀ j, j < w.heap.size → G j → H j) : QT w' Y H L v :=
  ⟨hGH Y h.c.lt h.y, h.c.blk (hk Y h.y h.c.lt), ownsRow_keep h.o (fun g hg => hk g (h.oo g hg).1 (ownsRow_lt h.o g hg).2), fun g hg => ⟨hGH g (ownsRow_lt h.o g hg).2 (h.oo g hg).1, (h.oo g hg).2⟩⟩
theorem QT.on {w w' : World} {Y : Nat} {G : Nat → Prop} {L : List Tm} {v : Value} (h : QT w Y G L v) (hb : Below w.heap.size w w') : QT w' Y G L v := h.keep (fun b _ hlt => hb.block b hlt) (fun _ _ h => h)
theorem QT.at {w : World} {Y : Nat} {G : Nat → Prop} {L : List Tm} {v : Value} (h : QT w Y G L v) (hn : 0 < L.length) : ∃ g cap, v = .slice (some ⟨g, 0, none⟩) L.length cap ∧ L.length ≤ cap ∧ cap ≤ maxLen ∧ g < w.heap.size ∧
    (∀ j u, (celT L)[j]? = some u → w.cell? ⟨g, j, none⟩ = some u) := by
  have hc := fun g => World.ownsRow.cells h.o (g := g)
  rcases h.o.2 with ⟨_, h2⟩ | ⟨g, cap, cur, e, _, hg, h3, h4, _⟩
  · omega
  · refine ⟨g, cap, e, h3, h4, (Array.getElem?_eq_some_iff.1 hg).1, fun j u hj => ?_⟩
    have d0 := hc g (by rw [e]; rfl) j u hj
    rwa [add_plain, Nat.zero_add] at d0
theorem qt_new (w : World) : QT (w.alloc (.cells #[.slice none 0 0] 32)) w.heap.size (fun j => j = w.heap.size) [] (.slice none 0 0) :=
  ⟨rfl, Bn.new w [.slice none 0 0] _ _ rfl, World.ownsRow_nil _ 0 51 2, fun g hg => (by simp [Value.ownBlock] at hg)⟩
theorem toL_inj {x y : ByteArray} (h : x.toList = y.toList) : x = y := by
  rw [Lib.toList_data, Lib.toList_data] at h
  have h2 : x.data = y.data := Array.toList_inj.1 h
  cases x; cases y
  simp only at h2
  rw [h2]
theorem toL_ne {x y : ByteArray} (h : x ≠ y) : (x.toList == y.toList) = false := by
  rw [beq_eq_false_iff_ne]
  exact fun e => h (toL_inj e)
theorem src_takeT {w : World} {t : TypeId} (ht : Try.prog.underlying t = some (.slice 51)) {g i c : Nat} {L : List Tm} (hc : ∀ j u, (celT L)[j]? = some u → w.cell? ⟨g, j, none⟩ = some u) (hi : i ≤ L.length) : Src Try.prog 2 t (.slice (some ⟨g, 0, none⟩) i c) i (celT (L.take i)) w := by
  refine Src.ofSlice _ ht _ i c _ (by rw [celT_len, List.length_take]; omega) (fun j u hj => ?_) (oc_T _)
  rw [add_plain, Nat.zero_add]
  refine hc j u ?_
  rw [← celT_take, List.getElem?_take] at hj
  split at hj
  · exact hj
  · cases hj
theorem src_dropT {w : World} {t : TypeId} (ht : Try.prog.underlying t = some (.slice 51)) {g i c : Nat} {L : List Tm} (hc : ∀ j u, (celT L)[j]? = some u → w.cell? ⟨g, j, none⟩ = some u) (hi : i ≤ L.length) : Src Try.prog 2 t (.slice (some ⟨g, i * 2, none⟩) (L.length - i) c) (L.length - i) (celT (L.drop i)) w := by
  refine Src.ofSlice _ ht _ _ c _ (by rw [celT_len, List.length_drop]) (fun j u hj => ?_) (oc_T _)
  rw [add_plain]
  refine hc _ u ?_
  rw [← celT_drop, List.getElem?_drop] at hj
  exact hj
theorem src_noneT {w : World} {t : TypeId} (ht : Try.prog.underlying t = some (.slice 51)) {g c : Nat} : Src Try.prog 2 t (.slice (some ⟨g, 0, none⟩) 0 c) 0 [] w := Src.ofSlice _ ht _ 0 c _ rfl (fun j u hj => by simp at hj) (fun u hu => by simp at hu)
set_option maxRecDepth 100000 in
set_option maxHeartbeats 2000000 in
theorem rDue_miss {w : World} {Y : Nat} {G : Nat → Prop} {L : List Tm} {v : Value} (h : QT w Y G L v) {k : ByteArray} (hn : ∀ i, i < L.length → (tg L i).1 ≠ k) (hl : L.length ≤ 1000) :
    Calls Try.prog 19 #[.pointer (some ⟨Y, 0, none⟩), .string k] w fun e w' => e = .returned (.tuple #[.int .i64 0, .bool false]) ∧ w' = w := by
  obtain ⟨c0, f0⟩ := h.c 0 _ rfl
  obtain ⟨a, cap, rfl, hlc, hcm⟩ := srow_form h.o
  have H := hideD h
  have HN := hideD hn
  clear h hn
  generalize hm : L.length = m at *
  have HM := hideD hm
  clear hm
  go_enter Try.func19, Try.ntmps19
  go_wp2
  go_loopw [6, 12] (fun _ ix wr => ∃ j : Nat, j ≤ m ∧ ix = .int .i64 (j : Int) ∧ w = wr) (fun _ ix _ => m - (RowKit.intOf ix).toNat)
  case atStart => exact ⟨0, Nat.zero_le _, rfl, by first | rfl | trivial⟩
  case round =>
    obtain ⟨j, hj, rfl, rfl⟩ := hrel
    by_cases hlt : j < m
    · obtain ⟨g, cap', e, _, _, hgl, hc⟩ := H.out.at (by rw [HM.out]; omega)
      simp only [Value.slice.injEq] at e
      have ha := e.1
      clear e
      subst ha
      have hjl : j < L.length := by rw [HM.out]; exact hlt
      have d0 := hc _ _ (celT_at hjl).1
      have hne := toL_ne (HN.out j hlt)
      have hne' : ¬ (tg L j).1.toList = k.toList := by simpa using hne
      have k1 : (j : Int) < (m : Int) := by omega
      have k2 : (0 : Int) ≤ (j : Int) := by omega
      clear hc hjl
      generalize (tg L j).1 = kj at *
      go_wp2
      go_roundw
      case rel => exact ⟨j + 1, hlt, by go_num, by first | rfl | trivial⟩
      case measure => simp [RowKit.intOf]; omega
    · have k1 : ¬ (j : Int) < (m : Int) := by omega
      go_wp2
      go_ret2
      exact ⟨rfl, rfl⟩
set_option maxRecDepth 100000 in
set_option maxHeartbeats 2000000 in
theorem rDue_hit {w : World} {Y : Nat} {G : Nat → Prop} {L : List Tm} {v : Value} (h : QT w Y G L v) {k : ByteArray} {i : Nat} (hi : i < L.length) (hk : (tg L i).1 = k) (hn : ∀ j, j < i → (tg L j).1 ≠ k) (hl : L.length ≤ 1000) :
    Calls Try.prog 19 #[.pointer (some ⟨Y, 0, none⟩), .string k] w fun e w' => e = .returned (.tuple #[.int .i64 (tg L i).2, .bool true]) ∧ w' = w := by
  obtain ⟨c0, f0⟩ := h.c 0 _ rfl
  obtain ⟨g, cap, rfl, hlc, hcm, hgl, hc⟩ := h.at (by omega)
  have HC := hideD hc
  have HN := hideD hn
  have HK := hideD hk
  clear h hn hc hk
  have HI := hideD hi
  generalize hm : L.length = m at *
  have HM := hideD hm
  clear hm
  obtain ⟨di, hdi⟩ : ∃ d, (tg L i).2 = d := ⟨_, rfl⟩
  rw [hdi]
  have HD := hideD hdi
  clear hdi
  go_enter Try.func19, Try.ntmps19
  go_wp2
  go_loopw [6, 12] (fun _ ix wr => ∃ j : Nat, j ≤ i ∧ ix = .int .i64 (j : Int) ∧ w = wr) (fun _ ix _ => m - (RowKit.intOf ix).toNat)
  case atStart => exact ⟨0, Nat.zero_le _, rfl, by first | rfl | trivial⟩
  case round =>
    obtain ⟨j, hj, rfl, rfl⟩ := hrel
    have hjm : j < m := by omega
    have hjl : j < L.length := by rw [HM.out]; exact hjm
    have d0 := HC.out _ _ (celT_at hjl).1
    have d1 := HC.out _ _ (celT_at hjl).2
    have k1 : (j : Int) < (m : Int) := by omega
    have k2 : (0 : Int) ≤ (j : Int) := by omega
    by_cases hlt : j < i
    · have hne := toL_ne (HN.out j hlt)
      have hne' : ¬ (tg L j).1.toList = k.toList := by simpa using hne
      clear hjl d1
      generalize (tg L j).1 = kj at *
      go_wp2
      go_roundw
      case rel => exact ⟨j + 1, hlt, by go_num, by first | rfl | trivial⟩
      case measure => simp [RowKit.intOf]; omega
    · have e : j = i := by omega
      subst e
      rw [HK.out] at d0
      rw [HD.out] at d1
      clear hjl hlt hj
      go_wp2
      go_ret2
      exact ⟨rfl, rfl⟩
set_option maxRecDepth 100000 in
set_option maxHeartbeats 2000000 in
theorem rStop_miss {w : World} {Y : Nat} {G : Nat → Prop} {L : List Tm} {v : Value} (h : QT w Y G L v) {k : ByteArray} (hn : ∀ i, i < L.length → (tg L i).1 ≠ k) (hl : L.length ≤ 1000) :
    Calls Try.prog 14 #[.pointer (some ⟨Y, 0, none⟩), .string k] w fun e w' => e = .returned (.bool false) ∧ w' = w := by
  obtain ⟨c0, f0⟩ := h.c 0 _ rfl
  obtain ⟨a, cap, rfl, hlc, hcm⟩ := srow_form h.o
  have H := hideD h
  have HN := hideD hn
  clear h hn
  generalize hm : L.length = m at *
  have HM := hideD hm
  clear hm
  go_enter Try.func14, Try.ntmps14
  go_wp2
  go_loopw [5, 11] (fun _ ix wr => ∃ j : Nat, j ≤ m ∧ ix = .int .i64 (j : Int) ∧ w = wr) (fun _ ix _ => m - (RowKit.intOf ix).toNat)
  case atStart => exact ⟨0, Nat.zero_le _, rfl, by first | rfl | trivial⟩
  case round =>
    obtain ⟨j, hj, rfl, rfl⟩ := hrel
    by_cases hlt : j < m
    · obtain ⟨g, cap', e, _, _, hgl, hc⟩ := H.out.at (by rw [HM.out]; omega)
      simp only [Value.slice.injEq] at e
      have ha := e.1
      clear e
      subst ha
      have hjl : j < L.length := by rw [HM.out]; exact hlt
      have d0 := hc _ _ (celT_at hjl).1
      have hne := toL_ne (HN.out j hlt)
      have hne' : ¬ (tg L j).1.toList = k.toList := by simpa using hne
      have k1 : (j : Int) < (m : Int) := by omega
      have k2 : (0 : Int) ≤ (j : Int) := by omega
      clear hc hjl
      generalize (tg L j).1 = kj at *
      go_wp2
      go_roundw
      case rel => exact ⟨j + 1, hlt, by go_num, by first | rfl | trivial⟩
      case measure => simp [RowKit.intOf]; omega
    · have k1 : ¬ (j : Int) < (m : Int) := by omega
      go_wp2
      go_ret
      exact ⟨rfl, rfl⟩

theorem Try.infoRT : (Try.prog.info? 51).map (fun i => (i.zero, i.size, i.bytes)) = some (some (.agg #[.string ByteArray.empty, .int .i64 0]), 2, 24) := by kernel_rfl
theorem stop_fin {w wb : World} {Y : Nat} {G : Nat → Prop} {L L' : List Tm} {v vb : Value} {n : Nat} (h : QT w Y G L v) (hO : wb.ownsRow w.heap.size 51 2 vb n (celT L')) (hn : n = L'.length) (hb : Below w.heap.size w wb) :
    wb.cell? ⟨Y, 0, none⟩ = some v ∧ wb.frozen? ⟨Y, 0, none⟩ = false ∧ QT (wb.setCell ⟨Y, 0, none⟩ vb) Y (nF G w) L' vb ∧ Kf G w (wb.setCell ⟨Y, 0, none⟩ vb) := by
  subst hn
  obtain ⟨c0, f0⟩ := h.c 0 _ rfl
  have hY := h.c.lt
  have hlo := World.ownsRow.lt hO
  refine ⟨(hb.cell (p := ⟨Y, 0, none⟩) hY).trans c0, (hb.frozen (p := ⟨Y, 0, none⟩) hY).trans f0, ⟨.inl h.y, (h.c.on hb).set (i := 0) (by simp) vb, ?_, fun q hq => ?_⟩, (Kf.of hb (Nat.le_refl _)).set h.y _⟩
  · exact ownsRow_keep ⟨hO.1, hO.2.imp id (fun ⟨a, b, c, e1, e2, e3⟩ => ⟨a, b, c, e1, Nat.zero_le _, e3⟩)⟩ (fun q hq => Below.heap_setCell _ _ _ _ (fun e => by have := (hlo q hq).1; have e : q = Y := e; omega))
  · have := (hlo q hq).1
    exact ⟨.inr this, by omega⟩
set_option maxRecDepth 100000 in
set_option maxHeartbeats 4000000 in
theorem rStop_hit {w : World} {Y : Nat} {G : Nat → Prop} {L : List Tm} {v : Value} (h : QT w Y G L v) {k : ByteArray} {i : Nat} (hi : i < L.length) (hk : (tg L i).1 = k) (hn : ∀ j, j < i → (tg L j).1 ≠ k) (hl : L.length ≤ 1000) :
    Calls Try.prog 14 #[.pointer (some ⟨Y, 0, none⟩), .string k] w fun e w' => e = .returned (.bool true) ∧ (∃ v', QT w' Y (nF G w) (L.take i ++ L.drop (i + 1)) v') ∧ Kf G w w' := by
  obtain ⟨c0, f0⟩ := h.c 0 _ rfl
  obtain ⟨g, cap, rfl, hlc, hcm, hgl, hc⟩ := h.at (by omega)
  have hYl := h.c.lt
  have H := hideD h
  have HC := hideD hc
  have HN := hideD hn
  have HK := hideD hk
  have HI := hideD hi
  unfold maxLen at hcm
  obtain ⟨ii, hii, hz0, hz1, hz2⟩ := inf_getT Try.infoRT
  clear h hn hc hk
  generalize hm : L.length = m at *
  have HM := hideD hm
  clear hm
  go_enter Try.func14, Try.ntmps14
  go_wp2
  go_loopw [5, 11] (fun _ ix wr => ∃ j : Nat, j ≤ i ∧ ix = .int .i64 (j : Int) ∧ w = wr) (fun _ ix _ => m - (RowKit.intOf ix).toNat)
  case atStart => exact ⟨0, Nat.zero_le _, rfl, by first | rfl | trivial⟩
  case round =>
    obtain ⟨j, hj, rfl, rfl⟩ := hrel
    have hjm : j < m := by omega
    have hjl : j < L.length := by rw [HM.out]; exact hjm
    have d0 := HC.out _ _ (celT_at hjl).1
    have k1 : (j : Int) < (m : Int) := by omega
    have k2 : (0 : Int) ≤ (j : Int) := by omega
    by_cases hlt : j < i
    · have hne := toL_ne (HN.out j hlt)
      have hne' : ¬ (tg L j).1.toList = k.toList := by simpa using hne
      clear hjl
      generalize (tg L j).1 = kj at *
      go_wp2
      go_roundw
      case rel => exact ⟨j + 1, hlt, by go_num, by first | rfl | trivial⟩
      case measure => simp [RowKit.intOf]; omega
    · have e : j = i := by omega
      subst e
      rw [HK.out] at d0
      clear hjl hlt hj
      have i4 : ¬ (j : Int) > (cap : Int) := by omega
      have i5 : (j : Int) ≤ (cap : Int) := by omega
      have i6 : ¬ (j : Int) + 1 > (m : Int) := by omega
      have i7 : (j : Int) + 1 ≤ (m : Int) := by omega
      have i8 : (m : Int) ≤ (cap : Int) := by omega
      have i9 : IntKind.i64.wrap ((j : Int) + 1) = (j : Int) + 1 := by rw [IntKind.wrap_i64]; omega
      have j0 : (0 : Int) ≤ (j : Int) + 1 := by omega
      have HS1 := hideD (show ∀ W, Below w.heap.size w W → Src Try.prog 2 30 (.slice (some ⟨g, 0, none⟩) j cap) j (celT (L.take j)) W from fun W hb => src_takeT Try.underlying30 (fun q u hq => (hb.cell (p := ⟨g, q, none⟩) (by show g < _; omega)).trans (HC.out q u hq)) (by rw [HM.out]; omega))
      have hal : Below w.heap.size w (w.alloc (.cells #[] 51)).drew := ((Below.refl _ _).alloc (Nat.le_refl _) _).drew
      have hown : (w.alloc (.cells #[] 51)).drew.ownsRow w.heap.size 51 2 (.slice (some ⟨w.heap.size, 0, none⟩) 0 0) 0 [] := World.ownsRow_made w #[] 0 (Nat.le_refl _) (Nat.zero_le _) rfl
      have C1 : (w.alloc (.cells #[] 51)).drew.cell? ⟨Y, 0, none⟩ = some (.slice (some ⟨g, 0, none⟩) m cap) := (hal.cell (p := ⟨Y, 0, none⟩) (by show Y < _; omega)).trans c0
      have hga1 : ∀ (wa : World), (w.alloc (.cells #[] 51)).drew.grownBy wa (Value.slice (some ⟨w.heap.size, 0, none⟩) 0 0).ownBlock → Below w.heap.size w wa := fun wa hg => hal.grown hg (by show w.heap.size ≤ (w.alloc _).heap.size; simp) (fun k hk => by have : w.heap.size = k := Option.some.inj hk; omega)
      obtain ⟨a2, ha2⟩ : ∃ a2, (if cap = j + 1 then some (⟨g, 0, none⟩ : Addr) else some ⟨g, (j + 1) * 2, none⟩) = a2 := ⟨_, rfl⟩
      have HS2 := hideD (show ∀ W, Below w.heap.size w W → Src Try.prog 2 30 (.slice a2 (m - (j + 1)) (cap - (j + 1))) (m - (j + 1)) (celT (L.drop (j + 1))) W from fun W hb => by
        have hl2 := HM.out
        rw [← ha2]
        by_cases hc : cap = j + 1
        · rw [if_pos hc]
          have e1 : m - (j + 1) = 0 := by omega
          have e2 : L.drop (j + 1) = [] := List.drop_eq_nil_of_le (by omega)
          rw [e1, e2]
          exact src_noneT Try.underlying30
        · rw [if_neg hc]
          have := src_dropT (w := W) (g := g) (i := j + 1) (c := cap - (j + 1)) (L := L) Try.underlying30 (fun q u hq => (hb.cell (p := ⟨g, q, none⟩) (by show g < _; omega)).trans (HC.out q u hq)) (by omega)
          rw [hl2] at this
          exact this)
      have HFIN := hideD (show ∀ (vb : Value) (wb : World), wb.ownsRow w.heap.size 51 2 vb (j + (m - (j + 1))) (celT (L.take j) ++ celT (L.drop (j + 1))) → Below w.heap.size w wb → wb.cell? ⟨Y, 0, none⟩ = some (.slice (some ⟨g, 0, none⟩) m cap) ∧ wb.frozen? ⟨Y, 0, none⟩ = false ∧ QT (wb.setCell ⟨Y, 0, none⟩ vb) Y (nF G w) (L.take j ++ L.drop (j + 1)) vb ∧ Kf G w (wb.setCell ⟨Y, 0, none⟩ vb) from fun vb wb hO hb => by
        rw [← celT_app] at hO
        have hl2 := HM.out
        exact stop_fin H.out hO (by rw [List.length_append, List.length_take, List.length_drop]; omega) hb)
      go_wp2
      go_region_law? (first
        | (refine step_append_at _ (by rfl) (.tmp 25) (.tmp 31) 30 30 (by rfl) w.heap.size 51 ii (.agg #[.string ByteArray.empty, .int .i64 0]) 2 24 Try.underlying30 hii hz0 hz1 hz2 rfl (.slice (some ⟨w.heap.size, 0, none⟩) 0 0) 0 [] (by rfl) hown _ j (celT (L.take j)) (by rfl) (HS1.out _ hal) j (.inr (by omega)) (Nat.le_refl _) (by unfold maxLen; omega) (by show w.heap.size ≤ (w.alloc _).heap.size; simp) ?_; intro va wa hOa hga hata; rw [Nat.zero_add, List.nil_append] at hOa; obtain ⟨a1, c1, rfl, hl1, hm1⟩ := srow_form hOa; have hba := hga1 wa hga; have C2 := (hba.cell (p := ⟨Y, 0, none⟩) (by show Y < _; omega)).trans c0)
        | (refine step_append_at _ (by rfl) (.tmp 32) (.tmp 39) 30 30 (by rfl) w.heap.size 51 ii (.agg #[.string ByteArray.empty, .int .i64 0]) 2 24 Try.underlying30 hii hz0 hz1 hz2 rfl (.slice a1 j c1) j (celT (L.take j)) (by rfl) hOa _ (m - (j + 1)) (celT (L.drop (j + 1))) (by rfl) (HS2.out _ hba) (m - (j + 1)) (.inr (by omega)) (Nat.le_refl _) (by unfold maxLen; omega) hba.size ?_; intro vb wb hOb hgb hatb; obtain ⟨a3, c3', rfl, hl3, hm3⟩ := srow_form hOb; obtain ⟨C3, F3, HZ⟩ := HFIN.out _ _ hOb (hba.grown hgb hba.size (fun k hk => (World.ownsRow.lt hOa k hk).1)); have HZ := hideD HZ)
        | fail)
      all_goals (
        go_wp2
        go_ret
        exact ⟨rfl, ⟨_, HZ.out.1⟩, HZ.out.2⟩)

def inN (x : Tm) (L : List Tm) : Nat := L.findIdx (fun y => !tlt y x)
def insQ (x : Tm) (L : List Tm) : List Tm := L.take (inN x L) ++ x :: L.drop (inN x L)
theorem inN_le (x : Tm) (L : List Tm) : inN x L ≤ L.length := List.findIdx_le_length
theorem inN_lt {x : Tm} {L : List Tm} {j : Nat} (h : j < inN x L) : tlt (tg L j) x = true := by
  have hl : j < L.length := Nat.lt_of_lt_of_le h (inN_le x L)
  have := List.not_of_lt_findIdx (p := fun y => !tlt y x) h
  rw [tg_of hl]
  simpa using this
theorem inN_at {x : Tm} {L : List Tm} (h : inN x L < L.length) : tlt (tg L (inN x L)) x = false := by
  have h2 : (!tlt (L[inN x L]) x) = true := List.findIdx_getElem (p := fun y => !tlt y x) (xs := L) (w := h)
  rw [tg_of h]
  cases hh : tlt (L[inN x L]) x
  · rfl
  · rw [hh] at h2
    cases h2
theorem src_rt (t : TypeId) (ht : Try.prog.underlying t = some (.slice 51)) (wa : World) (x : Tm) : Src Try.prog 2 t (.slice (some ⟨wa.heap.size, 0, none⟩) 1 1) 1 (celT [x]) (wa.alloc (.cells #[.string x.1, .int .i64 x.2] 51)) := by
  refine Src.ofSlice _ ht _ 1 1 _ rfl (fun j u hj => ?_) (oc_T _)
  rw [add_plain, Nat.zero_add]
  have hB : Bn (wa.alloc (.cells #[.string x.1, .int .i64 x.2] 51)) wa.heap.size [.string x.1, .int .i64 x.2] := Bn.new wa [.string x.1, .int .i64 x.2] _ _ rfl
  exact (hB j u hj).1
theorem set_fin {w wb : World} {Y : Nat} {G : Nat → Prop} {L : List Tm} {x : Tm} {v vb : Value} {n m : Nat} (h : QT w Y G L v) (hn : inN x L = n) (hm : L.length = m) (hnm : n ≤ m) (hO : wb.ownsRow w.heap.size 51 2 vb (n + 1 + (m - n)) (celT (L.take n) ++ celT [x] ++ celT (L.drop n))) (hb : Below w.heap.size w wb) :
    wb.cell? ⟨Y, 0, none⟩ = some v ∧ wb.frozen? ⟨Y, 0, none⟩ = false ∧ QT (wb.setCell ⟨Y, 0, none⟩ vb) Y (nF G w) (insQ x L) vb ∧ Kf G w (wb.setCell ⟨Y, 0, none⟩ vb) := by
  have e : celT (L.take n) ++ celT [x] ++ celT (L.drop n) = celT (insQ x L) := by
    unfold insQ
    rw [hn, ← celT_app, ← celT_app]
    congr 1
    simp
  rw [e] at hO
  refine stop_fin h hO ?_ hb
  unfold insQ
  rw [hn, List.length_append, List.length_cons, List.length_take, List.length_drop]
  omega
set_option maxRecDepth 100000 in
set_option maxHeartbeats 4000000 in
theorem rSet_any {w : World} {Y : Nat} {G : Nat → Prop} {L : List Tm} {k : ByteArray} {d : Int} (hst : Calls Try.prog 14 #[.pointer (some ⟨Y, 0, none⟩), .string k] w fun e w1 => (∃ b, e = .returned b) ∧ (∃ v1, QT w1 Y (nF G w) L v1) ∧ Kf G w w1) (hl : L.length ≤ 1000) :
    Calls Try.prog 12 #[.pointer (some ⟨Y, 0, none⟩), .string k, .int .i64 d] w fun e w' => e = .returned (.tuple #[]) ∧ (∃ v', QT w' Y (nF G w) (insQ (k, d) L) v') ∧ Kf G w w' := by
  obtain ⟨ii, hii, hz0, hz1, hz2⟩ := inf_getT Try.infoRT
  obtain ⟨n, hnn⟩ : ∃ n, inN (k, d) L = n := ⟨_, rfl⟩
  obtain ⟨m, hm⟩ : ∃ m, L.length = m := ⟨_, rfl⟩
  have hnm : n ≤ m := by rw [← hnn, ← hm]; exact inN_le _ _
  have HN := hideD (show ∀ j, j < n → tlt (tg L j) (k, d) = true from fun j hj => inN_lt (by rw [hnn]; exact hj))
  have HA := hideD (show n < m → tlt (tg L n) (k, d) = false from fun h => by have := inN_at (x := (k, d)) (L := L) (by rw [hnn, hm]; exact h); rwa [hnn] at this)
  have HNN := hideD hnn
  have HM := hideD hm
  rw [hm] at hl
  clear hnn hm
  go_enter Try.func12, Try.ntmps12
  go_upto_region 1 with (first
    | (go_at_call 14; refine hst.mono ?_; rintro e w1 ⟨⟨b, rfl⟩, ⟨v1, hq⟩, hK⟩; clear hst)
    | fail)
  obtain ⟨c0, f0⟩ := hq.c 0 _ rfl
  have hYl := hq.c.lt
  have HK := hideD hK
  have HQ := hideD hq
  have hal : Below w1.heap.size w1 w1 := Below.refl _ _
  have hown : w1.ownsRow w1.heap.size 51 2 (.slice none 0 0) 0 [] := World.ownsRow_nil _ _ _ _
  have HFIN := hideD (show ∀ (vb : Value) (wb : World), wb.ownsRow w1.heap.size 51 2 vb (n + 1 + (m - n)) (celT (L.take n) ++ celT [(k, d)] ++ celT (L.drop n)) → Below w1.heap.size w1 wb → wb.cell? ⟨Y, 0, none⟩ = some v1 ∧ wb.frozen? ⟨Y, 0, none⟩ = false ∧ (∃ v', QT (wb.setCell ⟨Y, 0, none⟩ vb) Y (nF G w) (insQ (k, d) L) v') ∧ Kf G w (wb.setCell ⟨Y, 0, none⟩ vb) from fun vb wb hO hb => by
    obtain ⟨h1, h2, h3, h4⟩ := set_fin (x := (k, d)) HQ.out HNN.out HM.out hnm hO hb
    refine ⟨h1, h2, ⟨_, h3.keep (fun _ _ _ => rfl) (fun j _ hj => ?_)⟩, HK.out.transN h4⟩
    rcases hj with hj | hj
    · exact hj
    · exact .inr (Nat.le_trans HK.out.size hj))
  have hrow : (v1 = .slice none 0 0 ∧ m = 0) ∨ ∃ g cap, v1 = .slice (some ⟨g, 0, none⟩) m cap ∧ m ≤ cap ∧ cap ≤ maxLen ∧ g < w1.heap.size ∧ ∀ j u, (celT L)[j]? = some u → w1.cell? ⟨g, j, none⟩ = some u := by
    by_cases h0 : v1 = .slice none 0 0 ∧ m = 0
    · exact .inl h0
    · rcases hq.o.2 with ⟨h1, h2⟩ | ⟨g, cap, cur, e, _, hg, h3, h4, _⟩
      · exact absurd ⟨h1, by rw [← HM.out]; exact h2⟩ h0
      · have hM := HM.out
        refine .inr ⟨g, cap, by rw [e, hM], by omega, h4, (Array.getElem?_eq_some_iff.1 hg).1, fun j u hj => ?_⟩
        have d0 := World.ownsRow.cells hq.o (g := g) (by rw [e]; rfl) j u hj
        rwa [add_plain, Nat.zero_add] at d0
  clear hq hK
  rcases hrow with ⟨rfl, rfl⟩ | ⟨g, cap, rfl, hmc, hcm, hgl, hc⟩
  · have hn0 : n = 0 := by omega
    subst hn0
    have HS1 := hideD (show ∀ W, Below w1.heap.size w1 W → Src Try.prog 2 30 (.slice none 0 0) 0 (celT (L.take 0)) W from fun W _ => Src.ofNil W Try.underlying30 0)
    have HS2 := hideD (show ∀ W, Below w1.heap.size w1 W → Src Try.prog 2 30 (.slice none (0 - 0) (0 - 0)) (0 - 0) (celT (L.drop 0)) W from fun W _ => by
      have : L = [] := List.eq_nil_of_length_eq_zero HM.out
      rw [this]
      exact Src.ofNil W Try.underlying30 0)
    go_wp2
    go_loopw [6] (fun ix wr => ix = .int .i64 0 ∧ w1 = wr) (fun _ _ => 0)
    case atStart => exact ⟨rfl, by first | rfl | trivial⟩
    case round =>
      obtain ⟨rfl, rfl⟩ := hrel
      go_wp2_with (first
        | (at_builtin; refine wpList_append_at _ (by rfl) _ _ 30 30 (by rfl) w1.heap.size 51 ii (.agg #[.string ByteArray.empty, .int .i64 0]) 2 24 Try.underlying30 hii hz0 hz1 hz2 rfl (.slice none 0 0) 0 [] (by rfl) hown _ 0 (celT (L.take 0)) (by rfl) (HS1.out _ hal) 0 (.inr (by omega)) (Nat.le_refl _) (by unfold maxLen; omega) (Nat.le_refl _) ?_; intro va wa hOa hga hata; rw [Nat.zero_add, List.nil_append] at hOa; obtain ⟨b1, c1, rfl, hl1, hm1⟩ := srow_form hOa; have hba := hal.grown hga (Nat.le_refl _) (fun k hk => by simp [Value.ownBlock] at hk); have C2 := (hba.cell (p := ⟨Y, 0, none⟩) (by show Y < _; omega)).trans c0; have hOA := World.ownsRow.alloc hOa (.cells #[.string k, .int .i64 d] 51); have hsb := src_rt 30 Try.underlying30 wa (k, d); have hbA := hba.alloc hba.size (.cells #[.string k, .int .i64 d] 51); clear HS1 hga hata hOa)
        | (at_builtin; refine wpList_append_at _ (by rfl) _ _ 30 30 (by rfl) w1.heap.size 51 ii (.agg #[.string ByteArray.empty, .int .i64 0]) 2 24 Try.underlying30 hii hz0 hz1 hz2 rfl (.slice b1 0 c1) 0 (celT (L.take 0)) (by rfl) hOA _ 1 (celT [(k, d)]) (by rfl) hsb 1 (.inr (by omega)) (Nat.le_refl _) (by unfold maxLen; omega) hbA.size ?_; intro vb wb hOb hgb hatb; obtain ⟨b2, c2, rfl, hl2, hm2⟩ := srow_form hOb; have hbb := hbA.grown hgb hbA.size (fun k hk => (World.ownsRow.lt hOA k hk).1); have C3 := (hbb.cell (p := ⟨Y, 0, none⟩) (by show Y < _; omega)).trans c0; clear hOA hsb hgb hatb)
        | (at_builtin; refine wpList_append_at _ (by rfl) _ _ 30 30 (by rfl) w1.heap.size 51 ii (.agg #[.string ByteArray.empty, .int .i64 0]) 2 24 Try.underlying30 hii hz0 hz1 hz2 rfl (.slice b2 (0 + 1) c2) (0 + 1) (celT (L.take 0) ++ celT [(k, d)]) (by rfl) hOb _ (0 - 0) (celT (L.drop 0)) (by rfl) (HS2.out _ hbb) (0 - 0) (.inr (by omega)) (Nat.le_refl _) (by unfold maxLen; omega) hbb.size ?_; intro vc wc hOc hgc hatc; obtain ⟨b3, c3, rfl, hl3, hm3⟩ := srow_form hOc; obtain ⟨C4, F4, HZ⟩ := HFIN.out _ _ hOc (hbb.grown hgc hbb.size (fun k hk => (World.ownsRow.lt hOb k hk).1)); have HZ := hideD HZ; clear hOc hgc hatc hOb)
        | fail)
      go_end0
      exact ⟨rfl, HZ.out⟩
  · unfold maxLen at hcm
    have HC := hideD hc
    clear hc
    have HS1 := hideD (show ∀ W, Below w1.heap.size w1 W → Src Try.prog 2 30 (.slice (some ⟨g, 0, none⟩) n cap) n (celT (L.take n)) W from fun W hb => src_takeT Try.underlying30 (fun q u hq => (hb.cell (p := ⟨g, q, none⟩) (by show g < _; omega)).trans (HC.out q u hq)) (by rw [HM.out]; omega))
    obtain ⟨a2, ha2⟩ : ∃ a2, (if cap = n then some (⟨g, 0, none⟩ : Addr) else some ⟨g, n * 2, none⟩) = a2 := ⟨_, rfl⟩
    have HS2 := hideD (show ∀ W, Below w1.heap.size w1 W → Src Try.prog 2 30 (.slice a2 (m - n) (cap - n)) (m - n) (celT (L.drop n)) W from fun W hb => by
      have hl2 := HM.out
      rw [← ha2]
      by_cases hc : cap = n
      · rw [if_pos hc]
        have e1 : m - n = 0 := by omega
        have e2 : L.drop n = [] := List.drop_eq_nil_of_le (by omega)
        rw [e1, e2]
        exact src_noneT Try.underlying30
      · rw [if_neg hc]
        have := src_dropT (w := W) (g := g) (i := n) (c := cap - n) (L := L) Try.underlying30 (fun q u hq => (hb.cell (p := ⟨g, q, none⟩) (by show g < _; omega)).trans (HC.out q u hq)) (by omega)
        rw [hl2] at this
        exact this)
    have i4 : ¬ (n : Int) > (cap : Int) := by omega
    have i5 : (n : Int) ≤ (cap : Int) := by omega
    have i6 : ¬ (n : Int) > (m : Int) := by omega
    have i7 : (n : Int) ≤ (m : Int) := by omega
    have i8 : (m : Int) ≤ (cap : Int) := by omega
    have i9 : (0 : Int) ≤ (n : Int) := by omega
    go_wp2
    go_loopw [6] (fun ix wr => ∃ j : Nat, j ≤ n ∧ ix = .int .i64 (j : Int) ∧ w1 = wr) (fun ix _ => n - (RowKit.intOf ix).toNat)
    case atStart => exact ⟨0, Nat.zero_le _, rfl, by first | rfl | trivial⟩
    case round =>
      obtain ⟨j, hj, rfl, rfl⟩ := hrel
      have k2 : (0 : Int) ≤ (j : Int) := by omega
      by_cases hjn : j < n
      · have hjl : j < L.length := by rw [HM.out]; omega
        have d0 := HC.out _ _ (celT_at hjl).1
        have d1 := HC.out _ _ (celT_at hjl).2
        have ht := HN.out j hjn
        have k1 : (j : Int) < (m : Int) := by omega
        clear hjl HFIN HS1 HS2
        unfold tlt blt at ht
        simp only at ht
        generalize tg L j = y at *
        obtain ⟨yk, yd⟩ := y
        simp only at *
        by_cases hd : yd = d
        · rw [if_pos hd] at ht
          have hd' : ¬ yd < d := by omega
          go_wp2
          go_roundw
          case rel => exact ⟨j + 1, hjn, by go_num, by first | rfl | trivial⟩
          case measure => simp [RowKit.intOf]; omega
        · rw [if_neg hd] at ht
          have hd' : yd < d := of_decide_eq_true ht
          clear ht
          go_wp2
          go_roundw
          case rel => exact ⟨j + 1, hjn, by go_num, by first | rfl | trivial⟩
          case measure => simp [RowKit.intOf]; omega
      · have e : j = n := by omega
        subst e
        clear hjn hj
        by_cases hjm : j < m
        · rw [if_neg (show ¬ cap = j by omega)] at ha2
          subst ha2
          have hjl : j < L.length := by rw [HM.out]; omega
          have d0 := HC.out _ _ (celT_at hjl).1
          have d1 := HC.out _ _ (celT_at hjl).2
          have ht := HA.out hjm
          have k1 : (j : Int) < (m : Int) := by omega
          clear hjl
          unfold tlt blt at ht
          simp only at ht
          generalize tg L j = y at *
          obtain ⟨yk, yd⟩ := y
          simp only at *
          by_cases hd : yd = d
          · rw [if_pos hd] at ht
            have hd2 := hd.symm
            clear hd
            subst hd2
            have hd' : ¬ d < d := by omega
            go_wp2_with (first
              | (at_builtin; refine wpList_append_at _ (by rfl) _ _ 30 30 (by rfl) w1.heap.size 51 ii (.agg #[.string ByteArray.empty, .int .i64 0]) 2 24 Try.underlying30 hii hz0 hz1 hz2 rfl (.slice none 0 0) 0 [] (by rfl) hown _ j (celT (L.take j)) (by rfl) (HS1.out _ hal) j (.inr (by omega)) (Nat.le_refl _) (by unfold maxLen; omega) (Nat.le_refl _) ?_; intro va wa hOa hga hata; rw [Nat.zero_add, List.nil_append] at hOa; obtain ⟨b1, c1, rfl, hl1, hm1⟩ := srow_form hOa; have hba := hal.grown hga (Nat.le_refl _) (fun k hk => by simp [Value.ownBlock] at hk); have C2 := (hba.cell (p := ⟨Y, 0, none⟩) (by show Y < _; omega)).trans c0; have hOA := World.ownsRow.alloc hOa (.cells #[.string k, .int .i64 d] 51); have hsb := src_rt 30 Try.underlying30 wa (k, d); have hbA := hba.alloc hba.size (.cells #[.string k, .int .i64 d] 51); clear HS1 hga hata hOa)
              | (at_builtin; refine wpList_append_at _ (by rfl) _ _ 30 30 (by rfl) w1.heap.size 51 ii (.agg #[.string ByteArray.empty, .int .i64 0]) 2 24 Try.underlying30 hii hz0 hz1 hz2 rfl (.slice b1 j c1) j (celT (L.take j)) (by rfl) hOA _ 1 (celT [(k, d)]) (by rfl) hsb 1 (.inr (by omega)) (Nat.le_refl _) (by unfold maxLen; omega) hbA.size ?_; intro vb wb hOb hgb hatb; obtain ⟨b2, c2, rfl, hl2, hm2⟩ := srow_form hOb; have hbb := hbA.grown hgb hbA.size (fun k hk => (World.ownsRow.lt hOA k hk).1); have C3 := (hbb.cell (p := ⟨Y, 0, none⟩) (by show Y < _; omega)).trans c0; clear hOA hsb hgb hatb)
              | (at_builtin; refine wpList_append_at _ (by rfl) _ _ 30 30 (by rfl) w1.heap.size 51 ii (.agg #[.string ByteArray.empty, .int .i64 0]) 2 24 Try.underlying30 hii hz0 hz1 hz2 rfl (.slice b2 (j + 1) c2) (j + 1) (celT (L.take j) ++ celT [(k, d)]) (by rfl) hOb _ (m - j) (celT (L.drop j)) (by rfl) (HS2.out _ hbb) (m - j) (.inr (by omega)) (Nat.le_refl _) (by unfold maxLen; omega) hbb.size ?_; intro vc wc hOc hgc hatc; obtain ⟨b3, c3, rfl, hl3, hm3⟩ := srow_form hOc; obtain ⟨C4, F4, HZ⟩ := HFIN.out _ _ hOc (hbb.grown hgc hbb.size (fun k hk => (World.ownsRow.lt hOb k hk).1)); have HZ := hideD HZ; clear hOc hgc hatc hOb)
              | fail)
            go_end0
            exact ⟨rfl, HZ.out⟩
          · rw [if_neg hd] at ht
            have hd' : ¬ yd < d := of_decide_eq_false ht
            clear ht
            go_wp2_with (first
              | (at_builtin; refine wpList_append_at _ (by rfl) _ _ 30 30 (by rfl) w1.heap.size 51 ii (.agg #[.string ByteArray.empty, .int .i64 0]) 2 24 Try.underlying30 hii hz0 hz1 hz2 rfl (.slice none 0 0) 0 [] (by rfl) hown _ j (celT (L.take j)) (by rfl) (HS1.out _ hal) j (.inr (by omega)) (Nat.le_refl _) (by unfold maxLen; omega) (Nat.le_refl _) ?_; intro va wa hOa hga hata; rw [Nat.zero_add, List.nil_append] at hOa; obtain ⟨b1, c1, rfl, hl1, hm1⟩ := srow_form hOa; have hba := hal.grown hga (Nat.le_refl _) (fun k hk => by simp [Value.ownBlock] at hk); have C2 := (hba.cell (p := ⟨Y, 0, none⟩) (by show Y < _; omega)).trans c0; have hOA := World.ownsRow.alloc hOa (.cells #[.string k, .int .i64 d] 51); have hsb := src_rt 30 Try.underlying30 wa (k, d); have hbA := hba.alloc hba.size (.cells #[.string k, .int .i64 d] 51); clear HS1 hga hata hOa)
              | (at_builtin; refine wpList_append_at _ (by rfl) _ _ 30 30 (by rfl) w1.heap.size 51 ii (.agg #[.string ByteArray.empty, .int .i64 0]) 2 24 Try.underlying30 hii hz0 hz1 hz2 rfl (.slice b1 j c1) j (celT (L.take j)) (by rfl) hOA _ 1 (celT [(k, d)]) (by rfl) hsb 1 (.inr (by omega)) (Nat.le_refl _) (by unfold maxLen; omega) hbA.size ?_; intro vb wb hOb hgb hatb; obtain ⟨b2, c2, rfl, hl2, hm2⟩ := srow_form hOb; have hbb := hbA.grown hgb hbA.size (fun k hk => (World.ownsRow.lt hOA k hk).1); have C3 := (hbb.cell (p := ⟨Y, 0, none⟩) (by show Y < _; omega)).trans c0; clear hOA hsb hgb hatb)
              | (at_builtin; refine wpList_append_at _ (by rfl) _ _ 30 30 (by rfl) w1.heap.size 51 ii (.agg #[.string ByteArray.empty, .int .i64 0]) 2 24 Try.underlying30 hii hz0 hz1 hz2 rfl (.slice b2 (j + 1) c2) (j + 1) (celT (L.take j) ++ celT [(k, d)]) (by rfl) hOb _ (m - j) (celT (L.drop j)) (by rfl) (HS2.out _ hbb) (m - j) (.inr (by omega)) (Nat.le_refl _) (by unfold maxLen; omega) hbb.size ?_; intro vc wc hOc hgc hatc; obtain ⟨b3, c3, rfl, hl3, hm3⟩ := srow_form hOc; obtain ⟨C4, F4, HZ⟩ := HFIN.out _ _ hOc (hbb.grown hgc hbb.size (fun k hk => (World.ownsRow.lt hOb k hk).1)); have HZ := hideD HZ; clear hOc hgc hatc hOb)
              | fail)
            go_end0
            exact ⟨rfl, HZ.out⟩
        · have k1 : ¬ (j : Int) < (m : Int) := by omega
          go_wp2_with (first
            | (at_builtin; refine wpList_append_at _ (by rfl) _ _ 30 30 (by rfl) w1.heap.size 51 ii (.agg #[.string ByteArray.empty, .int .i64 0]) 2 24 Try.underlying30 hii hz0 hz1 hz2 rfl (.slice none 0 0) 0 [] (by rfl) hown _ j (celT (L.take j)) (by rfl) (HS1.out _ hal) j (.inr (by omega)) (Nat.le_refl _) (by unfold maxLen; omega) (Nat.le_refl _) ?_; intro va wa hOa hga hata; rw [Nat.zero_add, List.nil_append] at hOa; obtain ⟨b1, c1, rfl, hl1, hm1⟩ := srow_form hOa; have hba := hal.grown hga (Nat.le_refl _) (fun k hk => by simp [Value.ownBlock] at hk); have C2 := (hba.cell (p := ⟨Y, 0, none⟩) (by show Y < _; omega)).trans c0; have hOA := World.ownsRow.alloc hOa (.cells #[.string k, .int .i64 d] 51); have hsb := src_rt 30 Try.underlying30 wa (k, d); have hbA := hba.alloc hba.size (.cells #[.string k, .int .i64 d] 51); clear HS1 hga hata hOa)
            | (at_builtin; refine wpList_append_at _ (by rfl) _ _ 30 30 (by rfl) w1.heap.size 51 ii (.agg #[.string ByteArray.empty, .int .i64 0]) 2 24 Try.underlying30 hii hz0 hz1 hz2 rfl (.slice b1 j c1) j (celT (L.take j)) (by rfl) hOA _ 1 (celT [(k, d)]) (by rfl) hsb 1 (.inr (by omega)) (Nat.le_refl _) (by unfold maxLen; omega) hbA.size ?_; intro vb wb hOb hgb hatb; obtain ⟨b2, c2, rfl, hl2, hm2⟩ := srow_form hOb; have hbb := hbA.grown hgb hbA.size (fun k hk => (World.ownsRow.lt hOA k hk).1); have C3 := (hbb.cell (p := ⟨Y, 0, none⟩) (by show Y < _; omega)).trans c0; clear hOA hsb hgb hatb)
            | (at_builtin; refine wpList_append_at _ (by rfl) _ _ 30 30 (by rfl) w1.heap.size 51 ii (.agg #[.string ByteArray.empty, .int .i64 0]) 2 24 Try.underlying30 hii hz0 hz1 hz2 rfl (.slice b2 (j + 1) c2) (j + 1) (celT (L.take j) ++ celT [(k, d)]) (by rfl) hOb _ (m - j) (celT (L.drop j)) (by rfl) (HS2.out _ hbb) (m - j) (.inr (by omega)) (Nat.le_refl _) (by unfold maxLen; omega) hbb.size ?_; intro vc wc hOc hgc hatc; obtain ⟨b3, c3, rfl, hl3, hm3⟩ := srow_form hOc; obtain ⟨C4, F4, HZ⟩ := HFIN.out _ _ hOc (hbb.grown hgc hbb.size (fun k hk => (World.ownsRow.lt hOb k hk).1)); have HZ := hideD HZ; clear hOc hgc hatc hOb)
            | fail)
          go_end0
          exact ⟨rfl, HZ.out⟩

def takL (now : Int) : List Tm → List ByteArray × List Tm
  | [] => ([], [])
  | x :: r => if x.2 ≤ now then (x.1 :: (takL now r).1, (takL now r).2) else ([], x :: r)
/-- What was there of G, and new blocks but the keys' row. -/
def HT (G : Nat → Prop) (B : Nat) (ks : Value) : Nat → Prop := fun j => (G j ∧ j < B) ∨ (B ≤ j ∧ ks.ownBlock ≠ some j)
theorem Kf.via {G H : Nat → Prop} {a b c : World} (h : Kf G a b) (k : Kf H b c) (hs : ∀ j, j < a.heap.size → H j → G j) : Kf G a c :=
  ⟨k.os.trans h.os, k.tape.trans h.tape, k.output.trans h.output, Nat.le_trans h.size k.size, fun j hj hn => (k.block j (Nat.lt_of_lt_of_le hj h.size) (fun e => hn (hs j hj e))).trans (h.block j hj hn)⟩
theorem ht_g {G : Nat → Prop} {B j : Nat} {ks : Value} (hj : j < B) (h : HT G B ks j) : G j := by
  rcases h with h | h
  · exact h.1
  · omega
set_option maxRecDepth 100000 in
set_option maxHeartbeats 2000000 in
theorem rTake_any {w : World} {Y : Nat} {G : Nat → Prop} {L : List Tm} {v : Value} (h : QT w Y G L v) (hl : L.length ≤ 1000) (now : Int) :
    Calls Try.prog 17 #[.pointer (some ⟨Y, 0, none⟩), .int .i64 now] w fun e w' => ∃ kv, e = .returned kv ∧ w'.ownsRow w.heap.size 9 1 kv (takL now L).1.length ((takL now L).1.map Value.string) ∧ (∃ v', QT w' Y (nF G w) (takL now L).2 v') ∧ Kf G w w' := by
  obtain ⟨K, hK⟩ : ∃ K, (takL now L).1 = K := ⟨_, rfl⟩
  obtain ⟨R, hR⟩ : ∃ R, (takL now L).2 = R := ⟨_, rfl⟩
  rw [hK, hR]
  have H0 := hideD h
  have HKR := hideD (And.intro hK hR)
  have HL := hideD hl
  obtain ⟨ii, hi, hi0, hi1, hi2⟩ := inf_getT Try.infoStr
  clear h hK hR hl
  go_enter Try.func17, Try.ntmps17
  go_wp2
  go_loopw [5] (fun ks wr => ∃ (acc : List ByteArray) (P : List Tm) (vp : Value), acc.length + P.length = L.length ∧ acc ++ (takL now P).1 = K ∧ (takL now P).2 = R ∧
    wr.ownsRow w.heap.size 9 1 ks acc.length (acc.map Value.string) ∧ QT wr Y (HT G w.heap.size ks) P vp ∧ Kf G w wr) (fun ks _ => L.length - lenV ks)
  case atStart => exact ⟨[], L, _, by simp, HKR.out.1, HKR.out.2, World.ownsRow_nil _ _ 9 1, H0.out.keep (fun _ _ _ => rfl) (fun j hj hg => .inl ⟨hg, hj⟩), Kf.refl _ _⟩
  case round =>
    obtain ⟨acc, P, vp, hlen, hk, hr, hO, hP, hKf⟩ := hrel
    clear H0 HKR
    obtain ⟨c0, f0⟩ := hP.c 0 _ rfl
    have hend : ∀ {P : List Tm}, QT wr Y (HT G w.heap.size u5) P vp → QT wr Y (nF G w) P vp := fun h => h.keep (fun _ _ _ => rfl) (fun j _ hj => by
      rcases hj with hj | hj
      · exact .inl hj.1
      · exact .inr hj.1)
    cases P with
    | nil =>
      have hk : acc ++ [] = K := hk
      rw [List.append_nil] at hk
      have hr : [] = R := hr
      subst hk
      subst hr
      obtain ⟨a, cap, rfl, _, _⟩ := srow_form hP.o
      have HH := hideD (And.intro hO (And.intro (hend hP) hKf))
      clear hO hP hKf hend
      go_wp2
      go_ret
      exact ⟨_, rfl, HH.out.1, ⟨_, HH.out.2.1⟩, HH.out.2.2⟩
    | cons x P =>
      obtain ⟨g, cap, rfl, hcl, hcm, hgl, hc⟩ := hP.at (by simp)
      have d0 := hc (0 * 2) _ (celT_at (Q := x :: P) (i := 0) (by simp)).1
      have d1 := hc (0 * 2 + 1) _ (celT_at (Q := x :: P) (i := 0) (by simp)).2
      have ex : tg (x :: P) 0 = x := rfl
      rw [ex] at d0 d1
      rw [Nat.zero_mul] at d0 d1
      have hpos : (0 : Int) < ((x :: P).length : Int) := by simp only [List.length_cons]; omega
      unfold takL at hk hr
      by_cases hd : x.2 ≤ now
      · rw [if_pos hd] at hk hr
        obtain ⟨ka, kc, rfl, hal, ham⟩ := srow_form hO
        unfold maxLen at ham
        have hws : w.heap.size ≤ wr.heap.size := hKf.size
        have hsrc := src_str 44 Try.underlying44 wr x.1
        have hown := World.ownsRow.alloc hO (.cells #[.string x.1] 9)
        have HF : ∀ v' wb, wb.ownsRow w.heap.size 9 1 v' (acc.length + 1) (acc.map Value.string ++ [.string x.1]) → (wr.alloc (.cells #[.string x.1] 9)).grownBy wb (Value.slice ka acc.length kc).ownBlock → (v'.ownBlock = (Value.slice ka acc.length kc).ownBlock ∨ v'.ownBlock = some (wr.alloc (.cells #[.string x.1] 9)).heap.size) →
            wb.ownsRow w.heap.size 9 1 v' (acc ++ [x.1]).length ((acc ++ [x.1]).map Value.string) ∧ QT wb Y (HT G w.heap.size v') (x :: P) (.slice (some ⟨g, 0, none⟩) (x :: P).length cap) ∧ Kf G w wb ∧ Below w.heap.size w w ∧ wb.cell? ⟨Y, 0, none⟩ = some (.slice (some ⟨g, 0, none⟩) (x :: P).length cap) ∧ wb.cell? ⟨g, 0, none⟩ = some (.string x.1) := fun v' wb h1 h2 h3 => by
          have hsz : (wr.alloc (.cells #[.string x.1] 9)).heap.size = wr.heap.size + 1 := by simp
          have hb : ∀ b, HT G w.heap.size (Value.slice ka acc.length kc) b → b < wr.heap.size → wb.heap[b]? = wr.heap[b]? := fun b hb hlt => (h2.block b (by omega) (fun e => by
            rcases hb with hb | hb
            · have := (ownsRow_lt hO b e.symm).1
              omega
            · exact hb.2 e.symm)).trans (((Below.refl wr.heap.size wr).alloc (Nat.le_refl _) _).block b hlt)
          have hb2 : Below w.heap.size wr wb := ((Below.refl w.heap.size wr).alloc hws _).grown h2 (by omega) (fun k hk => (ownsRow_lt hO k hk).1)
          have hQ := hP.keep (w' := wb) (H := HT G w.heap.size v') hb (fun j hj hg => by
            rcases hg with hg | hg
            · exact .inl hg
            · refine .inr ⟨hg.1, fun e => ?_⟩
              rcases h3 with h3 | h3
              · exact hg.2 (by rw [← h3]; exact e)
              · rw [h3, hsz] at e
                have := Option.some.inj e
                omega)
          obtain ⟨g2, cap2, e2, _, _, _, hc2⟩ := hQ.at (by simp)
          simp only [Value.slice.injEq, Option.some.injEq, Addr.mk.injEq] at e2
          have hg2 := e2.1.1
          subst hg2
          have dd := hc2 (0 * 2) _ (celT_at (Q := x :: P) (i := 0) (by simp)).1
          rw [Nat.zero_mul] at dd
          refine ⟨by rw [List.length_append, List.map_append]; exact h1, hQ, ⟨hb2.os.trans hKf.os, hb2.tape.trans hKf.tape, hb2.output.trans hKf.output, Nat.le_trans hKf.size hb2.size, fun k hk hnk => (hb2.block k hk).trans (hKf.block k hk hnk)⟩, Below.refl _ _, (hQ.c 0 _ rfl).1, dd⟩
        have hst := fun (wz : World) (v' : Value) (hz : QT wz Y (HT G w.heap.size v') (x :: P) (.slice (some ⟨g, 0, none⟩) (x :: P).length cap)) => rStop_hit hz (k := x.1) (i := 0) (by simp) rfl (fun j hj => by omega) (by have := HL.out; simp at hlen ⊢; omega)
        have HF := hideD HF
        have HK := hideD (And.intro hk hr)
        have HLN := hideD hlen
        have hal1 : acc.length ≤ 1000 := by have := HL.out; simp at hlen; omega
        have hkc : acc.length + 1 ≤ maxLen := by unfold maxLen; omega
        have HW := hideD hws
        clear hk hr hlen hP hKf hO hcl hcm hgl hc hend ex
        obtain ⟨ky, d⟩ := x
        simp only at *
        generalize hPn : ((ky, d) :: P).length = n at *
        have HPn := hideD hPn
        clear hPn
        generalize hal' : acc.length = al at *
        have HAL := hideD hal'
        clear hal'
        go_wp2_with (first
          | (at_builtin; refine wpList_append_at _ rfl _ _ 44 44 rfl w.heap.size 9 ii (.string ByteArray.empty) 1 16 Try.underlying44 hi hi0 hi1 hi2 rfl (.slice ka al kc) al _ rfl hown _ _ _ rfl hsrc 1 (.inr (by omega)) (Nat.le_refl _) hkc (by have := HW.out; simp; omega) ?_; intro vb wb hOb hgb hat; obtain ⟨hO2, hQ2, hK2, _, e0, e1⟩ := HF.out vb wb hOb hgb hat; have hst := hst _ _ hQ2; have HO2 := hideD (And.intro hO2 hK2); clear HF hOb hgb hat hQ2 hO2 hK2)
          | (go_at_call 14; refine hst.mono ?_; rintro e wc ⟨rfl, ⟨v3, hP3⟩, hK3⟩; have HP3 := hideD (And.intro hP3 hK3); clear hst hP3 hK3)
          | fail)
        have hQ4 : QT wc Y (nF (HT G w.heap.size vb) wb) P v3 := HP3.out.1
        have hO4 : wc.ownsRow w.heap.size 9 1 vb (acc ++ [ky]).length ((acc ++ [ky]).map Value.string) := ownsRow_keep HO2.out.1 (fun k hk => HP3.out.2.block k (ownsRow_lt HO2.out.1 k hk).2 (fun e => by
          rcases e with e | e
          · have := (ownsRow_lt HO2.out.1 k hk).1
            omega
          · exact e.2 hk))
        have hbl := fun k hk => (ownsRow_lt HO2.out.1 k hk)
        obtain ⟨ka2, kc2, hvb, _, _⟩ := srow_form hO4
        have e1 := HK.out.1
        have e2 := HLN.out
        have e5 := HAL.out
        have e6 := HPn.out
        simp only [List.length_cons] at e6
        refine ⟨⟨acc ++ [ky], P, v3, by simp; omega, ?_, HK.out.2, hO4, hQ4.keep (fun _ _ _ => rfl) (fun j _ hj => ?_), HO2.out.2.via HP3.out.2 (fun j hj hg => ht_g hj hg)⟩, ?_⟩
        · rw [← e1]
          simp
        · rcases hj with hj | hj
          · exact hj
          · have hw := HW.out
            have hs := HO2.out.2.size
            refine .inr ⟨by omega, fun e => ?_⟩
            have := (hbl j e).2
            omega
        · rw [hvb]
          simp only [lenV, List.length_append, List.length_singleton]
          omega
      · rw [if_neg hd] at hk hr
        rw [List.append_nil] at hk
        subst hk
        subst hr
        have HH := hideD (And.intro hO (And.intro (hend hP) hKf))
        clear hO hP hKf hend hc ex
        obtain ⟨ky, d⟩ := x
        simp only at *
        go_wp2
        go_ret
        exact ⟨_, rfl, HH.out.1, ⟨_, HH.out.2.1⟩, HH.out.2.2⟩
end Go.Proofs.Ytdificdnicdnnaa

/- Timers as math: the heap and the sorted row tell the same. -/
namespace Go.Proofs.Ytdificdnicdnnaa
open Go.RowKit Go.Lib Go.Maps
set_option linter.unusedSimpArgs false
set_option linter.unusedVariables false

theorem tg_app_l {A B : List Tm} {k : Nat} (h : k < A.length) : tg (A ++ B) k = tg A k := by unfold tg; simp [List.getD_eq_getElem?_getD, List.getElem?_append_left h]
theorem tg_dropL {Q : List Tm} {k : Nat} (h : k < Q.length - 1) : tg Q.dropLast k = tg Q k := by
  unfold tg
  have h2 : k < Q.length := by omega
  simp [List.getD_eq_getElem?_getD, List.getElem?_dropLast, h, h2]
theorem tg_set {Q : List Tm} {i k : Nat} (x : Tm) (h : k ≠ i) : tg (Q.set i x) k = tg Q k := by
  unfold tg
  simp [List.getD_eq_getElem?_getD, List.getElem?_set, Ne.symm h]
theorem dropL_perm {Q : List Tm} {n : Nat} (h : Q.length = n + 1) : Q.Perm (tg Q n :: Q.dropLast) := by
  have hne : Q ≠ [] := by intro e; rw [e] at h; simp at h
  have e : tg Q n = Q.getLast hne := by
    rw [tg_of (show n < Q.length by omega), List.getLast_eq_getElem]
    congr 1
    omega
  have h2 : (Q.dropLast ++ [Q.getLast hne]).Perm (Q.getLast hne :: Q.dropLast) := by
    exact List.perm_append_comm (l₁ := Q.dropLast) (l₂ := [Q.getLast hne])
  rw [List.dropLast_concat_getLast hne] at h2
  rw [e]
  exact h2
theorem hp_dropL {Q : List Tm} {n : Nat} (hl : Q.length = n + 1) (h : Hp Q n) : Hp Q.dropLast n := fun k h0 hk => by
  have hp : par k < k := by unfold par; omega
  rw [tg_dropL (by omega), tg_dropL (by omega)]
  exact h k h0 hk
theorem dnup_ok {n i : Nat} {Q : List Tm} (h : Dn Q n i) (hn : i < n) (hl : n ≤ Q.length) : Hp (dnup Q i n) n ∧ (dnup Q i n).Perm Q ∧ ∀ k, n ≤ k → tg (dnup Q i n) k = tg Q k := by
  unfold dnup
  rcases dn_any h hn hl with ⟨e1, e2, hu⟩ | ⟨h1, h2, h3, h4, h5⟩
  · rw [if_neg (by omega), e1]
    obtain ⟨a, b, _, c⟩ := up_ok n i Q hu hn hl
    exact ⟨a, b, c⟩
  · rw [if_pos h1]
    exact ⟨h2, h3, h5⟩
theorem add_ok {Q : List Tm} (h : Hp Q Q.length) (x : Tm) : Hp (addQ Q x) (Q.length + 1) ∧ (addQ Q x).Perm (x :: Q) := by
  have hu : Up (Q ++ [x]) (Q.length + 1) Q.length := ⟨fun k h0 hk hne => by
    have hp : par k < k := by unfold par; omega
    rw [tg_app_l (by omega), tg_app_l (by omega)]
    exact h k h0 (by omega), fun _ k h0 hk hp => by
    have : par k < k := by unfold par; omega
    omega⟩
  obtain ⟨a, b, _, _⟩ := up_ok (Q.length + 1) Q.length (Q ++ [x]) hu (by omega) (by simp)
  exact ⟨a, b.trans (List.perm_append_comm (l₁ := Q) (l₂ := [x]))⟩
theorem dn_of {Q S : List Tm} {n i : Nat} (h : Hp Q n) (he : ∀ k, k < n → k ≠ i → tg S k = tg Q k) (hi : i < n) : Dn S n i := ⟨fun k h0 hk h1 h2 => by
    have hp : par k < k := by unfold par; omega
    rw [he k hk h1, he (par k) (by omega) h2]
    exact h k h0 hk, fun h0' k h0 hk hp => by
    have hp1 : par k < k := by unfold par; omega
    have hp2 : par i < i := by unfold par; omega
    rw [he k hk (by omega), he (par i) (by omega) (by omega)]
    have a := h k h0 hk
    rw [hp] at a
    exact tle_trans a (h i h0' hi)⟩
theorem set_ok {Q : List Tm} (h : Hp Q Q.length) {i : Nat} (hi : i < Q.length) (d : Int) : Hp (setQ Q i d) Q.length ∧ (setQ Q i d).Perm (Q.set i ((tg Q i).1, d)) := by
  obtain ⟨a, b, _⟩ := dnup_ok (dn_of (S := Q.set i ((tg Q i).1, d)) h (fun k _ hne => tg_set _ hne) hi) hi (by rw [List.length_set]; exact Nat.le_refl _)
  exact ⟨a, b⟩
theorem rem_ok {Q : List Tm} (h : Hp Q Q.length) {i : Nat} (hi : i < Q.length) : Hp (remQ Q i) (Q.length - 1) ∧ Q.Perm (tg Q i :: remQ Q i) ∧ (remQ Q i).length = Q.length - 1 := by
  obtain ⟨n, hn⟩ : ∃ n, Q.length = n + 1 := ⟨Q.length - 1, by omega⟩
  unfold remQ
  rw [hn, Nat.add_sub_cancel]
  by_cases he : i = n
  · rw [if_pos he]
    subst he
    rw [hn] at h
    exact ⟨hp_dropL hn (fun k h0 hk => h k h0 (by omega)), dropL_perm hn, by rw [List.length_dropLast]; omega⟩
  · rw [if_neg he]
    have hin : i < n := by omega
    rw [hn] at h
    have ht := fun k => tg_sw (Q := Q) (a := i) (b := n) (by omega) (by omega) k
    obtain ⟨a, b, c⟩ := dnup_ok (dn_of (S := sw Q i n) (n := n) (fun k h0 hk => h k h0 (by omega)) (fun k hk hne => by rw [ht k, if_neg (by omega), if_neg hne]) hin) hin (by rw [sw_len]; omega)
    have hl : (dnup (sw Q i n) i n).length = n + 1 := by rw [dnup_len, sw_len]; exact hn
    have e := c n (Nat.le_refl _)
    rw [ht n, if_pos rfl] at e
    refine ⟨hp_dropL hl a, ?_, by rw [List.length_dropLast]; omega⟩
    have := dropL_perm hl
    rw [e] at this
    exact ((b.trans (sw_perm (by omega) (by omega))).symm).trans this
theorem pop_ok {Q : List Tm} (h : Hp Q Q.length) (hi : 0 < Q.length) : Hp (popQ Q) (Q.length - 1) ∧ Q.Perm (tg Q 0 :: popQ Q) := by
  obtain ⟨n, hn⟩ : ∃ n, Q.length = n + 1 := ⟨Q.length - 1, by omega⟩
  unfold popQ
  rw [hn, Nat.add_sub_cancel]
  rw [hn] at h
  have ht := fun k => tg_sw (Q := Q) (a := 0) (b := n) (by omega) (by omega) k
  have hl : (dnQ (sw Q 0 n) 0 n).1.length = n + 1 := by rw [dn_len, sw_len]; exact hn
  by_cases h0 : n = 0
  · subst h0
    have e : (dnQ (sw Q 0 0) 0 0).1 = sw Q 0 0 := by rw [dnQ, dif_neg (by omega)]
    refine ⟨fun k _ hk => by omega, ?_⟩
    have := dropL_perm hl
    rw [e] at this ⊢
    rw [ht 0, if_pos rfl] at this
    exact ((sw_perm (by omega) (by omega)).symm).trans this
  · obtain ⟨a, b, _, c, _⟩ := dn_ok n n 0 (sw Q 0 n) (by omega) (dn_of (S := sw Q 0 n) (n := n) (fun k h0 hk => h k h0 (by omega)) (fun k hk hne => by rw [ht k, if_neg (by omega), if_neg hne]) (by omega)) (fun h => by omega) (by omega) (by rw [sw_len]; omega)
    refine ⟨hp_dropL hl a, ?_⟩
    have := dropL_perm hl
    rw [c n (Nat.le_refl _), ht n, if_pos rfl] at this
    exact ((b.trans (sw_perm (by omega) (by omega))).symm).trans this

/-- The heap holds what the sorted row holds. -/
structure Sq (L Q : List Tm) : Prop where
  s : L.Pairwise (fun x y => tlt x y = true)
  p : Q.Perm L
  k : (L.map (·.1)).Nodup
  h : Hp Q Q.length
theorem Sq.nil : Sq [] [] := ⟨List.Pairwise.nil, List.Perm.refl _, List.nodup_nil, fun k _ hk => absurd hk (by simp)⟩
theorem Sq.len {L Q : List Tm} (h : Sq L Q) : Q.length = L.length := h.p.length_eq
theorem Sq.first {L Q : List Tm} (h : Sq L Q) : tg Q 0 = tg L 0 := by
  cases L with
  | nil => rw [List.Perm.eq_nil h.p]
  | cons x L =>
    have hl := h.len
    simp only [List.length_cons] at hl
    have hQ : 0 < Q.length := by omega
    show tg Q 0 = x
    have hm : tg Q 0 ∈ x :: L := h.p.mem_iff.1 (tg_mem hQ)
    rcases List.mem_cons.1 hm with e | hm
    · exact e
    · have h1 := (List.pairwise_cons.1 h.s).1 _ hm
      have hx : x ∈ Q := h.p.mem_iff.2 List.mem_cons_self
      obtain ⟨i, hi, e⟩ := List.getElem_of_mem hx
      have h2 := hp_least h.h i hi
      rw [tg_of hi, e] at h2
      rw [h1] at h2
      cases h2
theorem nodup_at {Q : List Tm} (h : (Q.map (·.1)).Nodup) {i j : Nat} (hi : i < Q.length) (hj : j < Q.length) (he : (tg Q i).1 = (tg Q j).1) : i = j := by
  rw [tg_of hi, tg_of hj] at he
  have hp := List.pairwise_iff_getElem.1 h
  rcases Nat.lt_trichotomy i j with hlt | e | hlt
  · exact absurd (by rw [List.getElem_map, List.getElem_map]; exact he) (hp i j (by simpa using hi) (by simpa using hj) hlt)
  · exact e
  · exact absurd (by rw [List.getElem_map, List.getElem_map]; exact he.symm) (hp j i (by simpa using hj) (by simpa using hi) hlt)
/-- A key is in both, or in neither. -/
theorem Sq.find {L Q : List Tm} (h : Sq L Q) (k : ByteArray) : ((∀ i, i < Q.length → (tg Q i).1 ≠ k) ∧ ∀ i, i < L.length → (tg L i).1 ≠ k) ∨
    ∃ i j, i < Q.length ∧ j < L.length ∧ (tg Q i).1 = k ∧ tg L j = tg Q i ∧ ∀ j', j' < j → (tg L j').1 ≠ k := by
  by_cases hx : ∃ i, i < Q.length ∧ (tg Q i).1 = k
  · obtain ⟨i, hi, hk⟩ := hx
    obtain ⟨j, hj, e⟩ := List.getElem_of_mem (h.p.mem_iff.1 (tg_mem hi))
    refine .inr ⟨i, j, hi, hj, hk, by rw [tg_of hj, e], fun j' hj' e' => ?_⟩
    have := nodup_at h.k (i := j') (j := j) (by omega) hj (by rw [e', tg_of hj, e, hk])
    omega
  · refine .inl ⟨fun i hi e => hx ⟨i, hi, e⟩, fun j hj e => ?_⟩
    obtain ⟨i, hi, e2⟩ := List.getElem_of_mem (h.p.mem_iff.2 (tg_mem hj))
    exact hx ⟨i, hi, by rw [tg_of hi, e2, e]⟩
theorem del_perm {L : List Tm} {j : Nat} (hj : j < L.length) : L.Perm (tg L j :: (L.take j ++ L.drop (j + 1))) := by
  rw [tg_of hj]
  have e : L = L.take j ++ L[j] :: L.drop (j + 1) := by rw [← List.drop_eq_getElem_cons hj, List.take_append_drop]
  exact (List.Perm.of_eq e).trans List.perm_middle
theorem del_sub (L : List Tm) (j : Nat) : (L.take j ++ L.drop (j + 1)).Sublist L := by
  rw [← List.eraseIdx_eq_take_drop_succ]
  exact List.eraseIdx_sublist L j
theorem Sq.rem {L Q : List Tm} (h : Sq L Q) {i j : Nat} (hi : i < Q.length) (hj : j < L.length) (he : tg L j = tg Q i) : Sq (L.take j ++ L.drop (j + 1)) (remQ Q i) := by
  obtain ⟨a, b, c⟩ := rem_ok h.h hi
  refine ⟨h.s.sublist (del_sub L j), ?_, h.k.sublist ((del_sub L j).map _), by rw [c]; exact a⟩
  have h1 := (b.symm.trans h.p).trans (del_perm hj)
  rw [he] at h1
  exact h1.cons_inv
theorem ins_perm (x : Tm) (L : List Tm) : (insQ x L).Perm (x :: L) := by
  unfold insQ
  have := List.perm_middle (a := x) (l₁ := L.take (inN x L)) (l₂ := L.drop (inN x L))
  rwa [List.take_append_drop] at this
theorem ins_sort {x : Tm} {L : List Tm} (h : L.Pairwise (fun x y => tlt x y = true)) (hx : ∀ y ∈ L, y.1 ≠ x.1) : (insQ x L).Pairwise (fun x y => tlt x y = true) := by
  unfold insQ
  have h0 := h
  rw [← List.take_append_drop (inN x L) L, List.pairwise_append] at h0
  obtain ⟨h1, h2, h3⟩ := h0
  have hb : ∀ b ∈ L.drop (inN x L), tlt x b = true := fun b hb => by
    have hlt : inN x L < L.length := by
      rcases Nat.lt_or_ge (inN x L) L.length with h | h
      · exact h
      · rw [List.drop_eq_nil_of_le h] at hb
        cases hb
    have hat := inN_at hlt
    have hxn : tlt x (tg L (inN x L)) = true := by
      cases hh : tlt x (tg L (inN x L))
      · have := tlt_tot hat hh
        exact absurd (congrArg Prod.fst this) (hx _ (tg_mem hlt))
      · rfl
    rw [List.drop_eq_getElem_cons hlt] at hb h2
    rcases List.mem_cons.1 hb with rfl | hb
    · rwa [tg_of hlt] at hxn
    · have := (List.pairwise_cons.1 h2).1 b hb
      rw [tg_of hlt] at hxn
      exact tlt_trans hxn this
  refine List.pairwise_append.2 ⟨h1, List.pairwise_cons.2 ⟨hb, h2⟩, fun a ha b hb' => ?_⟩
  rcases List.mem_cons.1 hb' with rfl | hb'
  · obtain ⟨j, hj, rfl⟩ := List.getElem_of_mem ha
    rw [List.length_take] at hj
    have := inN_lt (x := b) (L := L) (j := j) (by omega)
    rw [tg_of (by omega)] at this
    simpa using this
  · exact h3 a ha b hb'
theorem ins_nodup {x : Tm} {L : List Tm} (h : (L.map (·.1)).Nodup) (hx : ∀ y ∈ L, y.1 ≠ x.1) : ((insQ x L).map (·.1)).Nodup := by
  refine ((ins_perm x L).map _).nodup_iff.2 ?_
  rw [List.map_cons, List.nodup_cons]
  refine ⟨fun hm => ?_, h⟩
  obtain ⟨y, hy, e⟩ := List.mem_map.1 hm
  exact hx y hy e
theorem Sq.add {L Q : List Tm} (h : Sq L Q) {x : Tm} (hx : ∀ i, i < L.length → (tg L i).1 ≠ x.1) : Sq (insQ x L) (addQ Q x) := by
  have hx' : ∀ y ∈ L, y.1 ≠ x.1 := fun y hy => by
    obtain ⟨i, hi, rfl⟩ := List.getElem_of_mem hy
    rw [← tg_of hi]
    exact hx i hi
  obtain ⟨a, b⟩ := add_ok h.h x
  have hl : (addQ Q x).length = Q.length + 1 := by rw [b.length_eq]; rfl
  exact ⟨ins_sort h.s hx', (b.trans (h.p.cons x)).trans (ins_perm x L).symm, ins_nodup h.k hx', by rw [hl]; exact a⟩
theorem set_perm2 {Q : List Tm} {i : Nat} (hi : i < Q.length) (x : Tm) : (tg Q i :: Q.set i x).Perm (x :: Q) := by
  have e : Q.set i x = Q.take i ++ x :: Q.drop (i + 1) := by rw [List.set_eq_take_append_cons_drop, if_pos hi]
  rw [e]
  have h1 : (Q.take i ++ x :: Q.drop (i + 1)).Perm (x :: (Q.take i ++ Q.drop (i + 1))) := List.perm_middle
  have h2 := del_perm hi
  exact ((h1.cons (tg Q i)).trans (List.Perm.swap _ _ _)).trans (h2.symm.cons x)
theorem Sq.due {L Q : List Tm} (h : Sq L Q) {i j : Nat} (hi : i < Q.length) (hj : j < L.length) (he : tg L j = tg Q i) (d : Int) : Sq (insQ ((tg Q i).1, d) (L.take j ++ L.drop (j + 1))) (setQ Q i d) := by
  obtain ⟨a, b⟩ := set_ok h.h hi d
  have hd := del_perm hj
  have hnd := ((hd.map (·.1)).nodup_iff.1 h.k)
  rw [List.map_cons, List.nodup_cons] at hnd
  have hx : ∀ y ∈ L.take j ++ L.drop (j + 1), y.1 ≠ ((tg Q i).1, d).1 := fun y hy e => hnd.1 (by rw [he]; exact List.mem_map.2 ⟨y, hy, e⟩)
  have hl : (setQ Q i d).length = Q.length := by rw [b.length_eq, List.length_set]
  refine ⟨ins_sort (h.s.sublist (del_sub L j)) hx, ?_, ins_nodup hnd.2 hx, by rw [hl]; exact a⟩
  refine b.trans (List.Perm.trans ?_ (ins_perm _ _).symm)
  have h1 := set_perm2 hi ((tg Q i).1, d)
  have h2 := (h1.trans (h.p.cons _)).trans (hd.cons _)
  rw [he] at h2
  exact (h2.trans (List.Perm.swap _ _ _)).cons_inv
theorem Sq.pop {x : Tm} {L Q : List Tm} (h : Sq (x :: L) Q) : Sq L (popQ Q) := by
  have hl := h.len
  simp only [List.length_cons] at hl
  obtain ⟨a, b⟩ := pop_ok h.h (by omega)
  have hf : tg Q 0 = x := h.first
  refine ⟨(List.pairwise_cons.1 h.s).2, ?_, (List.nodup_cons.1 h.k).2, by rw [pop_len]; exact a⟩
  rw [hf] at b
  exact (b.symm.trans h.p).cons_inv
theorem Sq.take (now : Int) : ∀ {L Q : List Tm}, Sq L Q → (takQ now Q.length Q).1 = (takL now L).1 ∧ Sq (takL now L).2 (takQ now Q.length Q).2
  | [], Q, h => by
    have : Q = [] := List.Perm.eq_nil h.p
    subst this
    exact ⟨rfl, h⟩
  | x :: L, Q, h => by
    have hl := h.len
    simp only [List.length_cons] at hl
    have hf : tg Q 0 = x := h.first
    have ih := Sq.take now h.pop
    rw [pop_len, hl, Nat.add_sub_cancel] at ih
    rw [hl]
    unfold takQ takL
    rw [hf]
    by_cases hd : x.2 ≤ now
    · rw [if_pos hd, if_pos hd]
      exact ⟨by rw [ih.1], ih.2⟩
    · rw [if_neg hd, if_neg hd]
      exact ⟨rfl, h⟩
end Go.Proofs.Ytdificdnicdnnaa

/- Delays; awake. -/
namespace Go.Proofs.Ytdificdnicdnnaa
open Go.RowKit Go.Lib Go.Maps
set_option linter.unusedSimpArgs false
set_option linter.unusedVariables false
attribute [local go_sem ↓] Go.wp_at_zero Go.wp_at_succ

def dly (a : Int) : Int := if a < 1 then 0 else if a = 1 then 2 else if a = 2 then 4 else if a = 3 then 8 else if a = 4 then 16 else if a = 5 then 32 else 40
def pwtDelay (j : Nat) : Int := match j with
    | 0 => 2
    | 1 => 4
    | 2 => 8
    | 3 => 16
    | 4 => 32
    | _ => 64
set_option maxHeartbeats 1000000 in
theorem tDelay_any (w : World) (a : Int) : Calls Try.prog 6 #[.int .i64 a] w fun e w' => e = .returned (.int .i64 (dly a)) ∧ w' = w := by
  by_cases h1 : a < 1
  · have e : dly a = 0 := if_pos h1
    rw [e]
    clear e
    go_enter Try.func6, Try.ntmps6
    go_wp2
    go_ret
    exact ⟨rfl, rfl⟩
  obtain ⟨D, hD⟩ : ∃ D, dly a = D := ⟨_, rfl⟩
  rw [hD]
  have HD := hideD hD
  clear hD
  go_enter Try.func6, Try.ntmps6
  go_wp2
  go_loopw [3, 4] (fun dv nv wr => ∃ j : Nat, j ≤ 5 ∧ dv = .int .i64 (pwtDelay j) ∧ nv = .int .i64 ((j : Int) + 1) ∧ (j = 0 ∨ (j : Int) + 1 ≤ a) ∧ w = wr) (fun _ nv _ => 7 - (RowKit.intOf nv).toNat)
  case atStart => exact ⟨0, by omega, rfl, rfl, .inl rfl, by first | rfl | trivial⟩
  case round =>
    obtain ⟨j, hj, rfl, rfl, hja, rfl⟩ := hrel
    have hc : j = 0 ∨ j = 1 ∨ j = 2 ∨ j = 3 ∨ j = 4 ∨ j = 5 := by omega
    unfold pwtDelay
    rcases hc with rfl | rfl | rfl | rfl | rfl | rfl
    · by_cases ha : (0 : Int) + 1 < a
      · have ha2 : (1 : Int) < a := by omega
        go_wp2
        go_roundw
        case rel => exact ⟨1, by omega, rfl, rfl, .inr (by omega), by first | rfl | trivial⟩
        case measure => simp [RowKit.intOf]
      · have ha2 : ¬ (1 : Int) < a := by omega
        have e : a = 1 := by omega
        subst e
        go_wp2
        go_ret
        exact ⟨by rw [← HD.out]; rfl, by first | rfl | trivial⟩
    · by_cases ha : (1 : Int) + 1 < a
      · have ha2 : (2 : Int) < a := by omega
        go_wp2
        go_roundw
        case rel => exact ⟨2, by omega, rfl, rfl, .inr (by omega), by first | rfl | trivial⟩
        case measure => simp [RowKit.intOf]
      · have ha2 : ¬ (2 : Int) < a := by omega
        have e : a = 2 := by omega
        subst e
        go_wp2
        go_ret
        exact ⟨by rw [← HD.out]; rfl, by first | rfl | trivial⟩
    · by_cases ha : (2 : Int) + 1 < a
      · have ha2 : (3 : Int) < a := by omega
        go_wp2
        go_roundw
        case rel => exact ⟨3, by omega, rfl, rfl, .inr (by omega), by first | rfl | trivial⟩
        case measure => simp [RowKit.intOf]
      · have ha2 : ¬ (3 : Int) < a := by omega
        have e : a = 3 := by omega
        subst e
        go_wp2
        go_ret
        exact ⟨by rw [← HD.out]; rfl, by first | rfl | trivial⟩
    · by_cases ha : (3 : Int) + 1 < a
      · have ha2 : (4 : Int) < a := by omega
        go_wp2
        go_roundw
        case rel => exact ⟨4, by omega, rfl, rfl, .inr (by omega), by first | rfl | trivial⟩
        case measure => simp [RowKit.intOf]
      · have ha2 : ¬ (4 : Int) < a := by omega
        have e : a = 4 := by omega
        subst e
        go_wp2
        go_ret
        exact ⟨by rw [← HD.out]; rfl, by first | rfl | trivial⟩
    · by_cases ha : (4 : Int) + 1 < a
      · have ha2 : (5 : Int) < a := by omega
        go_wp2
        go_roundw
        case rel => exact ⟨5, by omega, rfl, rfl, .inr (by omega), by first | rfl | trivial⟩
        case measure => simp [RowKit.intOf]
      · have ha2 : ¬ (5 : Int) < a := by omega
        have e : a = 5 := by omega
        subst e
        go_wp2
        go_ret
        exact ⟨by rw [← HD.out]; rfl, by first | rfl | trivial⟩
    · have e : dly a = 40 := by
        unfold dly
        rw [if_neg (by omega), if_neg (by omega), if_neg (by omega), if_neg (by omega), if_neg (by omega), if_neg (by omega)]
      have HE := hideD e
      clear e
      by_cases ha : (6 : Int) < a
      · go_wp2
        go_ret
        exact ⟨by (first | (rw [← HD.out, HE.out]; done) | (rw [← HD.out, HE.out]; rfl)), by first | rfl | trivial⟩
      · go_wp2
        go_ret
        exact ⟨by (first | (rw [← HD.out, HE.out]; done) | (rw [← HD.out, HE.out]; rfl)), by first | rfl | trivial⟩
theorem hup1 (x : Tm) : addQ [] x = [x] := by
  unfold addQ
  rw [upQ]
  simp
def keyA : ByteArray := ⟨#[97]⟩
set_option maxHeartbeats 1000000 in
theorem tAwake_any (w : World) : Calls Try.prog 7 #[] w fun e w' => e = .returned (.bool true) ∧ Below w.heap.size w w' := by
  have h1 := tNew_any w
  have h2 := fun (wz : World) (hz : PT wz w.heap.size (fun j => j = w.heap.size) [] (.slice none 0 0) none) => tSet_miss hz (k := keyA) (by decide) (fun i hi => absurd hi (by simp)) (by simp) 5
  have h3 := fun (wz : World) (v : Value) (mv : Option Nat) (F : Nat → Prop) (hz : PT wz w.heap.size F (addQ [] (keyA, 5)) v mv) => tLen_any hz
  rw [hup1] at h3
  have h4 := fun wz => tDelay_any wz 2
  rw [show dly 2 = 4 from rfl] at h4
  unfold keyA at h2 h3
  go_enter Try.func7, Try.ntmps7
  go_wp2_with (first
    | (go_at_call 10; refine h1.mono ?_; rintro e w1 ⟨rfl, hP, hb⟩; have h2 := h2 _ hP; have HB := hideD hb; have HS := hideD hP.lt; clear h1 hP hb)
    | (go_at_call 11; refine h2.mono ?_; rintro e w2 ⟨rfl, ⟨v, mv, hP⟩, hK⟩; rw [show (⟨#[97]⟩ : ByteArray) = keyA from rfl, hup1] at hP; unfold keyA at hP; have h3 := h3 _ _ _ _ hP; have HK := hideD hK; clear h2 hP hK)
    | (go_at_call 21; refine h3.mono ?_; rintro e w3 ⟨rfl, rfl⟩; clear h3)
    | (go_at_call 6; refine (h4 _).mono ?_; rintro e w4 ⟨rfl, rfl⟩; clear h4)
    | fail)
  go_ret
  exact ⟨rfl, HB.out.trans (HK.out.below (fun j hj => (by have hj : j = w.heap.size := hj; omega)) HB.out.size)⟩

end Go.Proofs.Ytdificdnicdnnaa

/- Arguments that are rows of calls on timers, opened. -/
namespace Go.Proofs.Ytdificdnicdnnaa
open Go.ChangeShapes Go.WideShapes Go.ChangeAt Go.RowKit
set_option linter.unusedSimpArgs false
set_option linter.unusedVariables false

/-- A call: what it is, the key, the time. -/
abbrev TOp := Int × ByteArray × Int
def rTo : TOp → List Value → Prop := fun x cs => cs = [.int .i64 x.1, .string x.2.1, .int .i64 x.2.2]
abbrev RdTo (w : World) (l : List TOp) (v : Value) : Prop := RdK (fun _ => True) w 3 rTo l v
theorem spotTm {w : World} {a : Addr} {v : Value} (h : w.cell? (a.add 0) = some v) : a = ⟨a.block, a.off, none⟩ := by
  rw [show a.add 0 = a from by simp [Addr.add]] at h
  unfold World.cell? at h
  split at h
  · obtain ⟨b, o, s⟩ := a
    cases s with
    | none => rfl
    | some x => simp at h
  · cases h
set_option maxRecDepth 100000 in
theorem open_tmop {H : Type} {enc : TypeId × Value → H} {W : World} {fuel : Nat} {cs : List Value} {x : DataW H × List MemPlace}
    (h : DataW.trod enc Try.prog W 0 (fun _ => true) true fuel 40 cs = some x) : ∃ y : TOp, cs = [.int .i64 y.1, .string y.2.1, .int .i64 y.2.2] := by
  obtain ⟨xs, n, _, rfl, hl, hlen, hf⟩ := DataW.trod_struct Try.underlying40 h
  have hc : Try.prog.cellsOf 40 = 3 := by kernel_rfl
  have c3 : Try.prog.cellsOf 3 = 1 := by kernel_rfl
  have cL : Try.prog.cellsOf 2 = 1 := by kernel_rfl
  have c9 : Try.prog.cellsOf 9 = 1 := by kernel_rfl
  rw [hc] at hl
  have f0 : DataW.trod enc Try.prog W 0 (fun _ => true) true n 3 ((cs.drop 0).take (Try.prog.cellsOf 3)) = xs[0]? := hf 0 _ rfl
  have f1 : DataW.trod enc Try.prog W 0 (fun _ => true) true n 9 ((cs.drop 1).take (Try.prog.cellsOf 9)) = xs[1]? := hf 1 _ rfl
  have f2 : DataW.trod enc Try.prog W 0 (fun _ => true) true n 2 ((cs.drop 2).take (Try.prog.cellsOf 2)) = xs[2]? := hf 2 _ rfl
  rw [c3] at f0
  rw [c9] at f1
  rw [cL] at f2
  match cs, hl, xs, hlen with
  | [a, b, c], _, [y0, y1, y2], _ =>
    simp only [List.drop_zero, List.take_succ_cons, List.take_zero, List.drop_succ_cons, List.getElem?_cons_zero, List.getElem?_cons_succ] at f0 f1 f2
    obtain ⟨k, e0, rfl, _⟩ := DataW.trod_int Try.underlying3 f0
    obtain ⟨s, e1, rfl, _⟩ := DataW.trod_string Try.underlying9 f1
    obtain ⟨n, e2, rfl, _⟩ := DataW.trod_int Try.underlying2 f2
    simp only [List.cons.injEq, and_true] at e0 e1 e2
    subst e0 e1 e2
    exact ⟨(k, s, n), rfl⟩
theorem open_tmops {H : Type} {enc : TypeId × Value → H} {W : World} {a : Option Addr} {len cap : Nat} {d : DataW H} {p : List MemPlace}
    (h : DataW.Trod enc Try.prog W 0 (fun _ => true) true 25 (.slice a len cap) d p) : ∃ l, RdTo W l (.slice a len cap) := by
  obtain ⟨fuel, hf⟩ := h
  have hc : Try.prog.cellsOf 40 = 3 := by kernel_rfl
  rcases Go.Deep.open_slice Try.underlying25 hf with ⟨hcs, hx⟩ | ⟨x, l, c, m, n, D, Pl, hcs, _, hl, hm, hmc, hx, hel⟩
  · simp [Value.cells] at hcs
    obtain ⟨rfl, rfl, rfl⟩ := hcs
    exact ⟨[], rdK_none _ _ _ _⟩
  · simp [Value.cells] at hcs
    obtain ⟨rfl, rfl, rfl⟩ := hcs
    have hmc' : m = cap := by simpa using hmc
    rw [hc] at hel
    have hall : ∀ i, i < len → ∃ y : TOp, W.cells? 0 (x.add (i * 3)) 3 = some [.int .i64 y.1, .string y.2.1, .int .i64 y.2.2] := by
      intro i hi
      obtain ⟨cs', h1, h2⟩ := hel i (by omega)
      obtain ⟨y, rfl⟩ := open_tmop h2
      exact ⟨y, h1⟩
    obtain ⟨f, hfy⟩ := Go.Deep.choose_lt (α := TOp) hall
    refine ⟨(List.range len).map f, some x, cap, by simp, by simp; omega, hm, fun i hi => ?_⟩
    have hi' : i < len := by simpa using hi
    obtain ⟨_, _, h0⟩ := World.cells?_some (hfy 0 (by omega))
    obtain ⟨_, _, hcell⟩ := World.cells?_some (hfy i hi')
    have hs : x = ⟨x.block, x.off, none⟩ := by
      have := h0 0 (by omega)
      rw [Nat.zero_mul, show (x.add 0).add 0 = x.add 0 from by simp [Addr.add]] at this
      exact spotTm this
    generalize x.block = b at hs
    generalize x.off = off at hs
    subst hs
    have hg : ∀ j u, [Value.int .i64 (f i).1, .string (f i).2.1, .int .i64 (f i).2.2][j]? = some u → W.cell? ⟨b, off + i * 3 + j, none⟩ = some u := fun j u hj => by
      have hj1 : j < 3 := by
        have := (List.getElem?_eq_some_iff.1 hj).1
        simpa using this
      have := hcell j hj1
      rw [hj] at this
      rw [add_plain, add_plain] at this
      exact this
    simp only [List.getElem_map, List.getElem_range]
    exact ⟨b, off, [.int .i64 (f i).1, .string (f i).2.1, .int .i64 (f i).2.2], rfl, trivial, World.block_lt_of_cell? W _ (hg 0 _ rfl), rfl, rfl, hg⟩
end Go.Proofs.Ytdificdnicdnnaa
