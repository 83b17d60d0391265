import Derived.Test.YtibmbbiipffooaaXec05
import Derived.Deep.RegionLaw
import Derived.Deep.Cut
import Derived.Test.YtibmbbiipffooaaXec04

/- The document's disk: Append. -/
namespace Go.Proofs.Ytibmbbiipffooaa
open Go.RowKit Go.Lib Go.Maps
set_option linter.unusedSimpArgs false
set_option linter.unusedVariables false

theorem qapp_any {w : World} {Y : Nat} {G : Nat → Prop} {d : Dk} {n : Int} {v : Value} {bs : List Int} (h0 : QD w Y G d) (hfu : d.fuse ≤ 9223372036854775807) (hro : 0 ≤ d.room ∧ d.room ≤ 9223372036854775807)
    (hl : d.L.length ≤ 100000) (hu : usM d.L ≤ 1000000) (hb : bs.length ≤ 1000000) (hv : ∀ w1, Kf G w w1 → Rd w1 v bs) :
    Calls Try.prog 18 #[.pointer (some ⟨Y, 0, none⟩), .int .i64 n, v] w fun e w' => e = .returned (.int .i64 (appD d n bs).2) ∧ QD w' Y (nF G w) (appD d n bs).1 ∧ Kf G w w' := by
  by_cases hd : d.dead = true
  · exact qapp_off h0 hfu hro hu hb (hv w (Kf.refl G w)) (.inl hd)
  by_cases hn : n < 0
  · exact qapp_off h0 hfu hro hu hb (hv w (Kf.refl G w)) (.inr (.inl hn))
  by_cases hr : (bs.length : Int) > d.room - (usM d.L : Int)
  · exact qapp_off h0 hfu hro hu hb (hv w (Kf.refl G w)) (.inr (.inr (.inl hr)))
  by_cases hz : d.fuse = 0
  · exact qapp_off h0 hfu hro hu hb (hv w (Kf.refl G w)) (.inr (.inr (.inr hz)))
  have hd : d.dead = false := by simpa using hd
  obtain ⟨Lv, E, h⟩ := h0
  cases hq : lk n E with
  | some s => exact qapp_hit h hfu hro hl hu hb hv hd hn hr hz hq
  | none =>
    obtain ⟨J, j0, j1, j2⟩ := ins_at h.2.2.1.r hq
    rcases h.2.2.1.o.2 with ⟨e1, e2⟩ | ⟨g, cap, cur, e, _⟩
    · exact qapp_nil h hfu hro hl hu hb hv hd hn hr hz hq j0 j1 j2 e1 e2
    · rcases Nat.lt_or_ge J E.length with hlt | hge
      · exact qapp_mid h hfu hro hl hu hb hv hd hn hr hz hq j0 j1 j2 (by omega) hlt
      · exact qapp_end h hfu hro hl hu hb hv hd hn hr hz hq j0 j1 j2 ⟨g, cap, e⟩ (by omega)

theorem crL_ris {kp : Nat → Int} : ∀ {l : List (Int × Sm)} {i : Nat}, Ris l → Ris (crL kp i l)
  | [], _, _ => List.Pairwise.nil
  | x :: r, i, h => by
    obtain ⟨h1, h2⟩ := List.pairwise_cons.1 h
    rw [crL_cons]
    split
    · exact crL_ris h2
    · refine List.pairwise_cons.2 ⟨fun a ha => ?_, crL_ris h2⟩
      obtain ⟨y, hy, e⟩ := crL_mem ha
      rw [e]
      exact h1 y hy
/-- One segment more of a crash. -/
theorem crL_step {kp : Nat → Int} {L : List (Int × Sm)} {j : Nat} (hj : j < L.length) : crL kp 0 (L.take (j + 1)) = crL kp 0 (L.take j) ++ if kpN (L[j]).2 (kp j) = 0 then [] else [((L[j]).1, ((L[j]).2.1.take (kpN (L[j]).2 (kp j)), kpN (L[j]).2 (kp j)))] := by
  rw [List.take_succ_eq_append_getElem hj, crL_app, List.length_take, Nat.zero_add, Nat.min_eq_left (Nat.le_of_lt hj), crL_cons]
  rfl
theorem mmE_app (a b : List (Int × Sv)) : mmE (a ++ b) = mmE a ++ mmE b := by simp [mmE]
/-- What is kept so far is less than the segment that comes. -/
theorem crL_less {kp : Nat → Int} {L : List (Int × Sm)} (h : Ris L) {j : Nat} (hj : j < L.length) {E : List (Int × Sv)} (hE : mmE E = crL kp 0 (L.take j)) : ∀ a ∈ E, a.1 < (L[j]).1 := fun a ha => by
  have h1 : (a.1, a.2.2) ∈ mmE E := by
    unfold mmE
    exact List.mem_map.2 ⟨a, ha, rfl⟩
  rw [hE] at h1
  obtain ⟨y, hy, e⟩ := crL_mem h1
  have := (ris_split h hj).1 y hy
  simp only at e
  omega
/-- A segment appended to a row of them. -/
theorem QR.push {w w' : World} {Y : Nat} {H : Nat → Prop} {Lv v' vb : Value} {E : List (Int × Sv)} {n : Int} {bs : List Int} {k : Nat} (h : QR w Y H Lv E) (hY : Y < w.heap.size) (hr : ∀ a ∈ E, a.1 < n) (hO : w'.ownsRow 0 56 3 v' (E.length + 1) (celE E ++ celE [(n, vb, bs, k)]))
    (hg : w.grownBy w' Lv.ownBlock) (ha : v'.ownBlock = Lv.ownBlock ∨ v'.ownBlock = some w.heap.size) (hN : H w.heap.size) (hb : Own w 0 5 vb bs) (hbf : ∀ q, vb.ownBlock = some q → H q ∧ q ≠ Y ∧ Lv.ownBlock ≠ some q) : QR w' Y H v' (E ++ [(n, vb, bs, k)]) := by
  have hs : ∀ x ∈ E ++ [(n, vb, bs, k)], Own w 0 5 x.2.1 x.2.2.1 ∧ ∀ q, x.2.1.ownBlock = some q → H q ∧ q ≠ Y ∧ Lv.ownBlock ≠ some q := fun x hx => by
    rcases List.mem_append.1 hx with hx | hx
    · exact h.s x hx
    · obtain rfl := List.mem_singleton.1 hx
      exact ⟨hb, hbf⟩
  refine ⟨?_, ?_, fun q hq => ?_, fun x hx => ?_⟩
  · refine List.pairwise_append.2 ⟨h.r, List.pairwise_singleton _ _, fun a ha b hb => ?_⟩
    obtain rfl := List.mem_singleton.1 hb
    exact hr a ha
  · rw [celE_app, List.length_append]
    exact hO
  · rcases ha with e | e
    · rw [e] at hq
      exact h.oo q hq
    · rw [e] at hq
      obtain rfl := Option.some.inj hq
      exact ⟨hN, by omega⟩
  · obtain ⟨h1, h2⟩ := hs x hx
    have hl := fun q hq => (ownsRow_lt h1 q hq).2
    refine ⟨ownD_keep h1 (fun q hq => hg.block q (hl q hq) (fun e => (h2 q hq).2.2 e.symm)), fun q hq => ⟨(h2 q hq).1, (h2 q hq).2.1, fun e => ?_⟩⟩
    rcases ha with e2 | e2
    · exact (h2 q hq).2.2 (by rw [← e2, e])
    · rw [e2] at e
      have := Option.some.inj e
      have := hl q hq
      omega
/-- What a crash leaves behind its loop. -/
theorem crash_end {w wr : World} {Y : Nat} {G : Nat → Prop} {t Lv : Value} {E : List (Int × Sv)} {r f : Int} {dd : Bool} (hG : G Y) (hY : Y < w.heap.size) (hb : Below w.heap.size w wr) (h : QR wr Y (fun q => w.heap.size ≤ q) t E) (hB : Bn w Y [Lv, .int .i64 r, .int .i64 f, .bool dd]) :
    QD (((wr.setCell ⟨Y, 0, none⟩ t).setCell ⟨Y, 3, none⟩ (.bool false)).setCell ⟨Y, 2, none⟩ (.int .i64 (-1))) Y (nF G w) ⟨mmE E, r, -1, false⟩ ∧ Kf G w (((wr.setCell ⟨Y, 0, none⟩ t).setCell ⟨Y, 3, none⟩ (.bool false)).setCell ⟨Y, 2, none⟩ (.int .i64 (-1))) := by
  refine ⟨⟨t, E, .inl hG, rfl, (((h.setY _).setY _).setY _).keep (fun _ _ _ _ => rfl) (fun _ _ h => .inr h), ?_⟩, (((Kf.of hb (Nat.le_refl _)).set hG _).set hG _).set hG _⟩
  exact (((hB.on hb).set (i := 0) (by simp) t).set (i := 3) (by simp) (.bool false)).set (i := 2) (by simp) (.int .i64 (-1))
end Go.Proofs.Ytibmbbiipffooaa

/- The document's disk: Crash. -/
namespace Go.Proofs.Ytibmbbiipffooaa
open Go.RowKit Go.Lib Go.Maps
set_option linter.unusedSimpArgs false
set_option linter.unusedVariables false
attribute [local go_sem ↓] Go.wp_at_zero Go.wp_at_succ

set_option maxRecDepth 100000 in
set_option maxHeartbeats 8000000 in
theorem qcrash_any {w : World} {Y : Nat} {G : Nat → Prop} {d : Dk} {ls : List Int} {v : Value} (h0 : QD w Y G d) (hw : ∀ x ∈ d.L, x.2.2 ≤ x.2.1.length) (hu : usM d.L ≤ 1000000) (hl : d.L.length ≤ 100000) (hll : ls.length ≤ 100000)
    (hv : ∀ w1, Kf G w w1 → RdI w1 ls v) :
    Calls Try.prog 26 #[.pointer (some ⟨Y, 0, none⟩), v] w fun e w' => e = .returned (.tuple #[]) ∧ QD w' Y (nF G w) (crD d ls) ∧ Kf G w w' := by
  obtain ⟨Lv, E, h⟩ := h0
  obtain ⟨g1, g2, g3, g4⟩ := id h
  have hYl := g4.lt
  obtain ⟨va, vc, rfl, hvl, hvm⟩ := (hv w (Kf.refl G w)).form
  obtain ⟨a, cap, rfl, hlc, hcm⟩ := g3.form
  have c0 := (g4 0 _ rfl).1
  obtain ⟨n, hn⟩ : ∃ n, E.length = n := ⟨_, rfl⟩
  obtain ⟨m, hm⟩ : ∃ n, ls.length = n := ⟨_, rfl⟩
  have hlE : E.length = d.L.length := by rw [← g2]; simp [mmE]
  have HR := hideD (show Ris d.L by rw [← g2]; exact ris_mmE g3.r)
  have HLE := hideD hlE
  rw [hn] at hlE hlc c0
  rw [hm] at hvl hll ⊢
  have HN := hideD hn
  have HM := hideD hm
  have HV := hideD hv
  have HW := hideD hw
  have HQ := hideD g3
  have HL := hideD g2
  have HB := hideD g4
  have hnl : n ≤ 100000 := by omega
  unfold maxLen at hcm hvm
  obtain ⟨D, hD⟩ : ∃ D, crD d ls = D := ⟨_, rfl⟩
  rw [hD]
  have HD := hideD hD
  obtain ⟨i0, hi0, hz0, hz1, hz2⟩ := seg_inf
  obtain ⟨j0, hj0, y0, y1, y2⟩ := u8_inf
  clear hD h g2 g3 g4 hn hm hv hw hlE
  go_enter Try.func26, Try.ntmps26
  go_wp2
  go_loopw [4, 14] (fun t ix wr => ∃ (j : Nat) (E' : List (Int × Sv)), j ≤ n ∧ ix = .int .i64 (j : Int) ∧ Hid (QR wr Y (fun q => w.heap.size ≤ q) t E') ∧ Hid (mmE E' = crL (kpA ls) 0 (d.L.take j)) ∧ Hid (Below w.heap.size w wr)) (fun _ ix _ => n - (RowKit.intOf ix).toNat)
  case atStart => exact ⟨0, [], Nat.zero_le _, rfl, ⟨List.Pairwise.nil, World.ownsRow_nil _ _ _ _, fun g hg => by simp [Value.ownBlock] at hg, fun x hx => absurd hx (by simp)⟩, hideD (show mmE [] = crL (kpA ls) 0 (d.L.take 0) from by simp [mmE, crL]), Below.refl _ _⟩
  case round =>
    obtain ⟨j, E', hj, rfl, HQj, HEj, HBj⟩ := hrel
    have hszr := HBj.out.size
    have C0 := (HBj.out.cell (p := ⟨Y, 0, none⟩) (by show Y < _; omega)).trans c0
    by_cases hlt : j < n
    · have hjl : j < E.length := by rw [HN.out]; exact hlt
      have hdl : j < d.L.length := by rw [← HLE.out]; exact hjl
      obtain ⟨g, cap', e, _, _, hgl, x0, x1, x2⟩ := QR.at HQ.out hjl
      simp only [Value.slice.injEq] at e
      have ha := e.1
      clear e
      subst ha
      obtain ⟨ho, hof⟩ := HQ.out.s _ (List.getElem_mem hjl)
      have hdj : d.L[j] = ((E[j]).1, (E[j]).2.2) := by simp only [← HL.out]; simp [mmE]
      obtain ⟨x, hx⟩ : ∃ x, E[j] = x := ⟨_, rfl⟩
      rw [hx] at x0 x1 x2 ho hof hdj
      obtain ⟨nn, sv, sb, sn⟩ := x
      simp only at x0 x1 x2 ho hof hdj
      obtain ⟨sa, sc, rfl, hsl, hsm⟩ := slice_form ho
      have hwj := HW.out _ (List.getElem_mem hdl)
      rw [hdj] at hwj
      simp only at hwj
      have X0 := (HBj.out.cell (p := ⟨g, j * 3, none⟩) hgl).trans x0
      have X1 := (HBj.out.cell (p := ⟨g, j * 3 + 1, none⟩) hgl).trans x1
      have X2 := (HBj.out.cell (p := ⟨g, j * 3 + 2, none⟩) hgl).trans x2
      have HDJ := hideD hdj
      have HO := hideD ho
      have HX := hideD hx
      have i1 : (j : Int) < (n : Int) := by omega
      have i2 : (0 : Int) ≤ (j : Int) := by omega
      clear x0 x1 x2 ho hof hdj hx
      have hal : Below wr.heap.size wr (wr.alloc (.cells #[.int .i64 nn, .slice sa sb.length sc, .int .i64 (sn : Int)] 56)) := (Below.refl _ _).alloc (Nat.le_refl _) _
      have hB8 : Bn (wr.alloc (.cells #[.int .i64 nn, .slice sa sb.length sc, .int .i64 (sn : Int)] 56)) wr.heap.size [.int .i64 nn, .slice sa sb.length sc, .int .i64 (sn : Int)] := Bn.new wr [.int .i64 nn, .slice sa sb.length sc, .int .i64 (sn : Int)] _ _ rfl
      obtain ⟨Z, hZ⟩ : ∃ Z, wr.heap.size = Z := ⟨_, rfl⟩
      have hszw : (wr.alloc (.cells #[.int .i64 nn, .slice sa sb.length sc, .int .i64 (sn : Int)] 56)).heap.size = wr.heap.size + 1 := by simp
      have hr := HV.out (wr.alloc (.cells #[.int .i64 nn, .slice sa sb.length sc, .int .i64 (sn : Int)] 56)) ((Kf.of HBj.out (Nat.le_refl _)).alloc _)
      rw [hZ] at hal hB8 hszw hszr
      go_upto_region 6 with fail
      generalize wr.alloc (.cells #[.int .i64 nn, .slice sa sb.length sc, .int .i64 (sn : Int)] 56) = w2 at *
      have HZ := hideD hZ
      clear hZ
      obtain ⟨t0, s0⟩ := hB8 0 _ rfl
      obtain ⟨t1, s1⟩ := hB8 1 _ rfl
      obtain ⟨t2, s2⟩ := hB8 2 _ rfl
      clear X0 X1 X2 C0 s0 s1 s2
      obtain ⟨T, hT⟩ : ∃ T, kpA ls j = T := ⟨_, rfl⟩
      obtain ⟨M, hM⟩ : ∃ M : Int, (if T < 0 then 0 else T) = M := ⟨_, rfl⟩
      obtain ⟨N, hN⟩ : ∃ N : Int, (if (sb.length : Int) - (sn : Int) < M then (sb.length : Int) - (sn : Int) else M) = N := ⟨_, rfl⟩
      obtain ⟨K, hK⟩ : ∃ K : Nat, kpN (sb, sn) T = K := ⟨_, rfl⟩
      have hNb : 0 ≤ N ∧ N ≤ (sb.length : Int) - (sn : Int) ∧ (sn : Int) + N = (K : Int) := by
        unfold kpN at hK
        simp only at hK
        have hM2 : M = max T 0 := by rw [← hM]; split <;> omega
        have hN2 : N = min M ((sb.length : Int) - (sn : Int)) := by rw [← hN]; split <;> omega
        omega
      obtain ⟨n1, n2, n3⟩ := hNb
      have hKl : K ≤ sb.length := by omega
      have hsbl : sb.length ≤ 1000000 := by
        have h1 := usM_step hdl
        have h2 := usM_take_le d.L (j + 1)
        rw [HDJ.out] at h1
        simp only at h1
        omega
      have w1e : wrap64 ((sb.length : Int) - (sn : Int)) = (sb.length : Int) - (sn : Int) := by unfold wrap64; omega
      have w2e : wrap64 ((sn : Int) + N) = (K : Int) := by rw [n3]; unfold wrap64; omega
      have HKK := hideD hK
      have HT := hideD hT
      clear hK n3
      by_cases hm0 : m = 0
      · have i3 : ¬ (m : Int) > 0 := by omega
        have hT0 : T = 0 := by rw [← hT]; exact if_pos (by rw [HM.out]; exact hm0)
        obtain rfl : K = sn := by
          have := HKK.out
          unfold kpN at this
          simp only at this
          omega
        clear hM hN w1e w2e n1 n2 hT hT0 hm0 hr
        have HW2 := hideD (show wrap64 (K : Int) = (K : Int) by unfold wrap64; omega)
        go_upto_region 9 with fail
        have hsz3 : Z < w2.heap.size := by omega
        clear hszw
        have hal3 := hal
        have hB3 := hB8
        generalize w2 = w3 at hal3 hB3 hsz3 ⊢
        clear t0 t1 t2
        obtain ⟨t0, s0⟩ := hB3 0 _ rfl
        obtain ⟨t1, s1⟩ := hB3 1 _ rfl
        have hQ3 : QR w3 Y (fun q => w.heap.size ≤ q) u4 E' := HQj.out.on (by rw [HZ.out]; exact hal3)
        have hb3 : Below w.heap.size w w3 := HBj.out.trans (by
          have := hal3
          exact this.mono hszr)
        clear s0 s1 hal3
        by_cases hK0 : K = 0
        · have k1 : (K : Int) = 0 := by omega
          have HQ3 := hideD hQ3
          have HB3 := hideD hb3
          clear hQ3 hb3 hB3 t0 t1
          go_wp2
          go_roundw
          case rel => exact ⟨j + 1, E', hlt, by go_num, HQ3, by
            show mmE E' = _
            rw [crL_step hdl, HDJ.out, HT.out, HKK.out, if_pos hK0, List.append_nil]
            exact HEj.out, HB3⟩
          case measure => simp [RowKit.intOf]; omega
        · have k1 : ¬ (K : Int) = 0 := by omega
          obtain ⟨b1, rfl⟩ : ∃ b1, sa = some ⟨b1, 0, none⟩ := by
            rcases HO.out.2 with ⟨e, _⟩ | ⟨b1, c1, u1, e, _⟩
            · simp only [Value.slice.injEq] at e
              omega
            · simp only [Value.slice.injEq] at e
              exact ⟨b1, e.1⟩
          have hbl1 := (ownsRow_lt HO.out b1 rfl).2
          have HS1 := hideD (show ∀ W, Below w.heap.size w W → Src Try.prog 1 30 (.slice (some ⟨b1, 0, none⟩) K sc) K ((sb.take K).map (Value.int .u8)) W from fun W hb => by
            refine Src.ofSlice _ Try.underlying30 _ K sc _ (by simp; omega) (fun q u hq => ?_) (ints_oneCell _ _)
            have hc := World.ownsRow.cells HO.out (g := b1) rfl q u (by
              rw [List.map_take, List.getElem?_take] at hq
              split at hq
              · exact hq
              · cases hq)
            rw [add_plain, Nat.zero_add] at hc ⊢
            exact (hb.cell (p := ⟨b1, q, none⟩) hbl1).trans hc)
          have hEl : E'.length ≤ 100000 := by
            have h1 := (crL_us (kp := kpA ls) (l := d.L.take j) 0 (fun x hx => HW.out x (List.mem_of_mem_take hx))).2
            rw [← HEj.out, List.length_take] at h1
            simp only [mmE, List.length_map] at h1
            omega
          have k2 : (0 : Int) ≤ (K : Int) := by omega
          have k3 : (K : Int) ≤ (sc : Int) := by omega
          have k4 : ¬ (K : Int) > (sc : Int) := by omega
          have hal : Below w3.heap.size w3 (w3.alloc (.cells #[] 5)).drew := ((Below.refl _ _).alloc (Nat.le_refl _) _).drew
          have hown : (w3.alloc (.cells #[] 5)).drew.ownsRow w3.heap.size 5 1 (.slice (some ⟨w3.heap.size, 0, none⟩) 0 0) 0 [] := World.ownsRow_made w3 #[] 0 (Nat.le_refl _) (Nat.zero_le _) rfl
          have hbA : Below w.heap.size w (w3.alloc (.cells #[] 5)).drew := hb3.trans (hal.mono hb3.size)
          have T0 : (w3.alloc (.cells #[] 5)).drew.cell? ⟨Z, 0, none⟩ = some (.int .i64 nn) := (hal.cell (p := ⟨Z, 0, none⟩) (by show Z < _; omega)).trans t0
          have T1 : (w3.alloc (.cells #[] 5)).drew.cell? ⟨Z, 1, none⟩ = some (.slice (some ⟨b1, 0, none⟩) sb.length sc) := (hal.cell (p := ⟨Z, 1, none⟩) (by show Z < _; omega)).trans t1
          have hszA : w3.heap.size ≤ (w3.alloc (.cells #[] 5)).drew.heap.size := hal.size
          have hless := crL_less (kp := kpA ls) HR.out hdl HEj.out
          rw [HDJ.out] at hless
          have hYZ : Y < Z := by omega
          have HPU := hideD (show ∀ (va1 : Value) (wa : World), wa.ownsRow w3.heap.size 5 1 va1 K ((sb.take K).map (Value.int .u8)) → Below w3.heap.size w3 wa →
              (wa.alloc (.cells #[.int .i64 nn, va1, .int .i64 (K : Int)] 56)).ownsRow 0 56 3 u4 E'.length (celE E') ∧ Src Try.prog 3 49 (.slice (some ⟨wa.heap.size, 0, none⟩) 1 1) 1 (celE [(nn, va1, sb.take K, K)]) (wa.alloc (.cells #[.int .i64 nn, va1, .int .i64 (K : Int)] 56)) ∧
              ∀ (vt : Value) (wt : World), wt.ownsRow 0 56 3 vt (E'.length + 1) (celE E' ++ celE [(nn, va1, sb.take K, K)]) → (wa.alloc (.cells #[.int .i64 nn, va1, .int .i64 (K : Int)] 56)).grownBy wt u4.ownBlock → (vt.ownBlock = u4.ownBlock ∨ vt.ownBlock = some (wa.alloc (.cells #[.int .i64 nn, va1, .int .i64 (K : Int)] 56)).heap.size) →
                QR wt Y (fun q => w.heap.size ≤ q) vt (E' ++ [(nn, va1, sb.take K, K)]) ∧ Below w.heap.size w wt from fun va1 wa hOa hba => by
            have hsa := hba.size
            have hlo := World.ownsRow.lt hOa
            have hbB : Below w3.heap.size w3 (wa.alloc (.cells #[.int .i64 nn, va1, .int .i64 (K : Int)] 56)) := hba.alloc hba.size _
            have hsB : (wa.alloc (.cells #[.int .i64 nn, va1, .int .i64 (K : Int)] 56)).heap.size = wa.heap.size + 1 := by simp
            have hQB := hQ3.on hbB
            have hu4 := fun q hq => (ownsRow_lt hQ3.o q hq).2
            refine ⟨hQB.o, ?_, fun vt wt hO hg ha => ⟨hQB.push (by omega) hless hO hg ha (by show w.heap.size ≤ _; omega) ?_ (fun q hq => ?_), ?_⟩⟩
            · refine Src.ofSlice _ Try.underlying49 _ 1 1 _ rfl (fun q u hq => ?_) (fun u hu => ?_)
              · rw [add_plain, Nat.zero_add]
                have hB : Bn (wa.alloc (.cells #[.int .i64 nn, va1, .int .i64 (K : Int)] 56)) wa.heap.size [.int .i64 nn, va1, .int .i64 (K : Int)] := Bn.new wa [.int .i64 nn, va1, .int .i64 (K : Int)] _ _ rfl
                exact (hB q u hq).1
              · have e : celE [(nn, va1, sb.take K, K)] = [.int .i64 nn, va1, .int .i64 (K : Int)] := rfl
                rw [e] at hu
                simp only [List.mem_cons, List.not_mem_nil, or_false] at hu
                obtain ⟨a1, c1, e1, _, _⟩ := ownf_form hOa
                rcases hu with rfl | rfl | rfl
                · rfl
                · rw [e1]; rfl
                · rfl
            · unfold Own
              rw [List.length_take, Nat.min_eq_left hKl]
              exact ownsRow_keep ⟨hOa.1, hOa.2.imp id (fun ⟨a, b, c, e1, e2, e3⟩ => ⟨a, b, c, e1, Nat.zero_le _, e3⟩)⟩ (fun q hq => ((Below.refl wa.heap.size wa).alloc (Nat.le_refl _) _).block q (hlo q hq).2)
            · have h1 := (hlo q hq).1
              have h3 := hb3.size
              exact ⟨by show w.heap.size ≤ q; omega, by omega, fun e => by have := hu4 q e; omega⟩
            · have hbw : Below w.heap.size w (wa.alloc (.cells #[.int .i64 nn, va1, .int .i64 (K : Int)] 56)) := hb3.trans (hbB.mono hb3.size)
              exact hbw.grown hg hbw.size (fun q hq => (hQ3.oo q hq).1))
          have hga1 : ∀ (wa : World), (w3.alloc (.cells #[] 5)).drew.grownBy wa (Value.slice (some ⟨w3.heap.size, 0, none⟩) 0 0).ownBlock → Below w3.heap.size w3 wa := fun wa hg => hal.grown hg (by show w3.heap.size ≤ (w3.alloc _).heap.size; simp) (fun k hk => by have : w3.heap.size = k := Option.some.inj hk; omega)
          clear hQ3 hb3 hB3 hless
          go_upto_region 10 with fail
          go_region_law (first
            | (refine step_append_at _ (by rfl) (.tmp 51) (.tmp 55) 30 30 (by rfl) w3.heap.size 5 j0 (.int .u8 0) 1 1 Try.underlying30 hj0 y0 y1 y2 rfl (.slice (some ⟨w3.heap.size, 0, none⟩) 0 0) 0 [] (by rfl) hown _ K ((sb.take K).map (Value.int .u8)) (by rfl) (HS1.out _ hbA) K (.inr (by omega)) (Nat.le_refl _) (by unfold maxLen; omega) hszA ?_; intro va1 wa hOa hga hata; rw [Nat.zero_add, List.nil_append] at hOa; have hba := hga1 wa hga; have U0 := (hba.cell (p := ⟨Z, 0, none⟩) (by show Z < _; omega)).trans t0; obtain ⟨pu1, pu2, pu3⟩ := HPU.out va1 wa hOa hba; have HPU3 := hideD pu3; clear pu3; obtain ⟨a1, ac1, rfl, hl1, hm1⟩ := ownf_form hOa)
            | (refine step_append_at _ (by rfl) (.tmp 48) (.tmp 59) 49 49 (by rfl) 0 56 i0 (.agg #[.int .i64 0, .slice none 0 0, .int .i64 0]) 3 40 Try.underlying49 hi0 hz0 hz1 hz2 rfl u4 E'.length (celE E') (by rfl) pu1 _ 1 (celE [(nn, .slice a1 K ac1, sb.take K, K)]) (by rfl) pu2 1 (.inr (by omega)) (Nat.le_refl _) (by unfold maxLen; omega) (Nat.zero_le _) ?_; intro vt wt hOt hgt hatt; have HEND := hideD (HPU3.out vt wt hOt hgt hatt))
            | fail)
          all_goals
            go_wp2
            go_roundw
            case rel => exact ⟨j + 1, E' ++ [(nn, .slice a1 K ac1, sb.take K, K)], hlt, by go_num, hideD HEND.out.1, by
              show mmE (E' ++ _) = _
              rw [crL_step hdl, HDJ.out, HT.out, HKK.out, if_neg hK0, mmE_app, HEj.out]
              rfl, hideD HEND.out.2⟩
            case measure => simp [RowKit.intOf]; omega
      · have i3 : (m : Int) > 0 := by omega
        have hml : ls.length ≠ 0 := by rw [HM.out]; exact hm0
        have hkA := kpA_in ls j hml
        rw [HM.out] at hkA
        obtain ⟨p, hp, hpl⟩ : ∃ p : Nat, j % m = p ∧ p < m := ⟨_, rfl, Nat.mod_lt _ (by omega)⟩
        rw [hp] at hkA
        obtain ⟨a, cap1, e, h1, h2, hcell⟩ := hr
        rw [HM.out] at e
        simp only [Value.slice.injEq] at e
        have e1 := e.1
        clear e
        obtain ⟨b, off, cs, ha, _, hbl, _, hcs, hcl⟩ := hcell p (by rw [HM.out]; exact hpl)
        have hva : va = some ⟨b, off, none⟩ := e1.trans ha
        clear ha e1 hcell
        subst hva
        have cp := hcl 0 (.int .i64 (kpA ls j)) (by rw [hcs, hkA]; simp [List.getD, show p < ls.length by rw [HM.out]; exact hpl])
        rw [Nat.mul_one, Nat.add_zero] at cp
        rw [hT] at cp
        have q0 : ¬ (m : Int) = 0 := by omega
        have j1 : ((j : Int) % (m : Int)) = (p : Int) := by rw [← hp]; exact (Int.natCast_emod j m).symm
        have j2 : ((j : Int).tmod (m : Int)) = (p : Int) := by rw [← hp]; exact (Int.ofNat_tmod j m).symm
        have j3 : (0 : Int) ≤ (p : Int) := by omega
        have j4 : (p : Int) < (m : Int) := by omega
        clear hkA hcl hcs hT hp h1 h2 hbl hml
        go_upto_region 7 with fail
        go_quiet (fail)
        go_upto_region 9 with fail
        have hKe : (sn : Int) + min (max T 0) ((sb.length : Int) - (sn : Int)) = (K : Int) := by
          have := HKK.out
          unfold kpN at this
          simp only at this
          omega
        simp only [hKe]
        clear cp w1e w2e hM hN hKe
        have hal3 : Below Z wr (w2.drewN nq) := ⟨hal.os, hal.tape, hal.output, by simpa using hal.size, hal.block⟩
        have hB3 : Bn (w2.drewN nq) Z [.int .i64 nn, .slice sa sb.length sc, .int .i64 (sn : Int)] := hB8.blk rfl
        have hsz3 : Z < (w2.drewN nq).heap.size := by show Z < w2.heap.size; omega
        generalize w2.drewN nq = w3 at hal3 hB3 hsz3 ⊢
        clear hal hB8 hszw t0 t1 t2
        obtain ⟨t0, s0⟩ := hB3 0 _ rfl
        obtain ⟨t1, s1⟩ := hB3 1 _ rfl
        have hQ3 : QR w3 Y (fun q => w.heap.size ≤ q) u4 E' := HQj.out.on (by rw [HZ.out]; exact hal3)
        have hb3 : Below w.heap.size w w3 := HBj.out.trans (by
          have := hal3
          exact this.mono hszr)
        clear s0 s1 hal3
        by_cases hK0 : K = 0
        · have k1 : (K : Int) = 0 := by omega
          have HQ3 := hideD hQ3
          have HB3 := hideD hb3
          clear hQ3 hb3 hB3 t0 t1
          go_wp2
          go_roundw
          case rel => exact ⟨j + 1, E', hlt, by go_num, HQ3, by
            show mmE E' = _
            rw [crL_step hdl, HDJ.out, HT.out, HKK.out, if_pos hK0, List.append_nil]
            exact HEj.out, HB3⟩
          case measure => simp [RowKit.intOf]; omega
        · have k1 : ¬ (K : Int) = 0 := by omega
          obtain ⟨b1, rfl⟩ : ∃ b1, sa = some ⟨b1, 0, none⟩ := by
            rcases HO.out.2 with ⟨e, _⟩ | ⟨b1, c1, u1, e, _⟩
            · simp only [Value.slice.injEq] at e
              omega
            · simp only [Value.slice.injEq] at e
              exact ⟨b1, e.1⟩
          have hbl1 := (ownsRow_lt HO.out b1 rfl).2
          have HS1 := hideD (show ∀ W, Below w.heap.size w W → Src Try.prog 1 30 (.slice (some ⟨b1, 0, none⟩) K sc) K ((sb.take K).map (Value.int .u8)) W from fun W hb => by
            refine Src.ofSlice _ Try.underlying30 _ K sc _ (by simp; omega) (fun q u hq => ?_) (ints_oneCell _ _)
            have hc := World.ownsRow.cells HO.out (g := b1) rfl q u (by
              rw [List.map_take, List.getElem?_take] at hq
              split at hq
              · exact hq
              · cases hq)
            rw [add_plain, Nat.zero_add] at hc ⊢
            exact (hb.cell (p := ⟨b1, q, none⟩) hbl1).trans hc)
          have hEl : E'.length ≤ 100000 := by
            have h1 := (crL_us (kp := kpA ls) (l := d.L.take j) 0 (fun x hx => HW.out x (List.mem_of_mem_take hx))).2
            rw [← HEj.out, List.length_take] at h1
            simp only [mmE, List.length_map] at h1
            omega
          have k2 : (0 : Int) ≤ (K : Int) := by omega
          have k3 : (K : Int) ≤ (sc : Int) := by omega
          have k4 : ¬ (K : Int) > (sc : Int) := by omega
          have hal : Below w3.heap.size w3 (w3.alloc (.cells #[] 5)).drew := ((Below.refl _ _).alloc (Nat.le_refl _) _).drew
          have hown : (w3.alloc (.cells #[] 5)).drew.ownsRow w3.heap.size 5 1 (.slice (some ⟨w3.heap.size, 0, none⟩) 0 0) 0 [] := World.ownsRow_made w3 #[] 0 (Nat.le_refl _) (Nat.zero_le _) rfl
          have hbA : Below w.heap.size w (w3.alloc (.cells #[] 5)).drew := hb3.trans (hal.mono hb3.size)
          have T0 : (w3.alloc (.cells #[] 5)).drew.cell? ⟨Z, 0, none⟩ = some (.int .i64 nn) := (hal.cell (p := ⟨Z, 0, none⟩) (by show Z < _; omega)).trans t0
          have T1 : (w3.alloc (.cells #[] 5)).drew.cell? ⟨Z, 1, none⟩ = some (.slice (some ⟨b1, 0, none⟩) sb.length sc) := (hal.cell (p := ⟨Z, 1, none⟩) (by show Z < _; omega)).trans t1
          have hszA : w3.heap.size ≤ (w3.alloc (.cells #[] 5)).drew.heap.size := hal.size
          have hless := crL_less (kp := kpA ls) HR.out hdl HEj.out
          rw [HDJ.out] at hless
          have hYZ : Y < Z := by omega
          have HPU := hideD (show ∀ (va1 : Value) (wa : World), wa.ownsRow w3.heap.size 5 1 va1 K ((sb.take K).map (Value.int .u8)) → Below w3.heap.size w3 wa →
              (wa.alloc (.cells #[.int .i64 nn, va1, .int .i64 (K : Int)] 56)).ownsRow 0 56 3 u4 E'.length (celE E') ∧ Src Try.prog 3 49 (.slice (some ⟨wa.heap.size, 0, none⟩) 1 1) 1 (celE [(nn, va1, sb.take K, K)]) (wa.alloc (.cells #[.int .i64 nn, va1, .int .i64 (K : Int)] 56)) ∧
              ∀ (vt : Value) (wt : World), wt.ownsRow 0 56 3 vt (E'.length + 1) (celE E' ++ celE [(nn, va1, sb.take K, K)]) → (wa.alloc (.cells #[.int .i64 nn, va1, .int .i64 (K : Int)] 56)).grownBy wt u4.ownBlock → (vt.ownBlock = u4.ownBlock ∨ vt.ownBlock = some (wa.alloc (.cells #[.int .i64 nn, va1, .int .i64 (K : Int)] 56)).heap.size) →
                QR wt Y (fun q => w.heap.size ≤ q) vt (E' ++ [(nn, va1, sb.take K, K)]) ∧ Below w.heap.size w wt from fun va1 wa hOa hba => by
            have hsa := hba.size
            have hlo := World.ownsRow.lt hOa
            have hbB : Below w3.heap.size w3 (wa.alloc (.cells #[.int .i64 nn, va1, .int .i64 (K : Int)] 56)) := hba.alloc hba.size _
            have hsB : (wa.alloc (.cells #[.int .i64 nn, va1, .int .i64 (K : Int)] 56)).heap.size = wa.heap.size + 1 := by simp
            have hQB := hQ3.on hbB
            have hu4 := fun q hq => (ownsRow_lt hQ3.o q hq).2
            refine ⟨hQB.o, ?_, fun vt wt hO hg ha => ⟨hQB.push (by omega) hless hO hg ha (by show w.heap.size ≤ _; omega) ?_ (fun q hq => ?_), ?_⟩⟩
            · refine Src.ofSlice _ Try.underlying49 _ 1 1 _ rfl (fun q u hq => ?_) (fun u hu => ?_)
              · rw [add_plain, Nat.zero_add]
                have hB : Bn (wa.alloc (.cells #[.int .i64 nn, va1, .int .i64 (K : Int)] 56)) wa.heap.size [.int .i64 nn, va1, .int .i64 (K : Int)] := Bn.new wa [.int .i64 nn, va1, .int .i64 (K : Int)] _ _ rfl
                exact (hB q u hq).1
              · have e : celE [(nn, va1, sb.take K, K)] = [.int .i64 nn, va1, .int .i64 (K : Int)] := rfl
                rw [e] at hu
                simp only [List.mem_cons, List.not_mem_nil, or_false] at hu
                obtain ⟨a1, c1, e1, _, _⟩ := ownf_form hOa
                rcases hu with rfl | rfl | rfl
                · rfl
                · rw [e1]; rfl
                · rfl
            · unfold Own
              rw [List.length_take, Nat.min_eq_left hKl]
              exact ownsRow_keep ⟨hOa.1, hOa.2.imp id (fun ⟨a, b, c, e1, e2, e3⟩ => ⟨a, b, c, e1, Nat.zero_le _, e3⟩)⟩ (fun q hq => ((Below.refl wa.heap.size wa).alloc (Nat.le_refl _) _).block q (hlo q hq).2)
            · have h1 := (hlo q hq).1
              have h3 := hb3.size
              exact ⟨by show w.heap.size ≤ q; omega, by omega, fun e => by have := hu4 q e; omega⟩
            · have hbw : Below w.heap.size w (wa.alloc (.cells #[.int .i64 nn, va1, .int .i64 (K : Int)] 56)) := hb3.trans (hbB.mono hb3.size)
              exact hbw.grown hg hbw.size (fun q hq => (hQ3.oo q hq).1))
          have hga1 : ∀ (wa : World), (w3.alloc (.cells #[] 5)).drew.grownBy wa (Value.slice (some ⟨w3.heap.size, 0, none⟩) 0 0).ownBlock → Below w3.heap.size w3 wa := fun wa hg => hal.grown hg (by show w3.heap.size ≤ (w3.alloc _).heap.size; simp) (fun k hk => by have : w3.heap.size = k := Option.some.inj hk; omega)
          clear hQ3 hb3 hB3 hless
          go_upto_region 10 with fail
          go_region_law (first
            | (refine step_append_at _ (by rfl) (.tmp 51) (.tmp 55) 30 30 (by rfl) w3.heap.size 5 j0 (.int .u8 0) 1 1 Try.underlying30 hj0 y0 y1 y2 rfl (.slice (some ⟨w3.heap.size, 0, none⟩) 0 0) 0 [] (by rfl) hown _ K ((sb.take K).map (Value.int .u8)) (by rfl) (HS1.out _ hbA) K (.inr (by omega)) (Nat.le_refl _) (by unfold maxLen; omega) hszA ?_; intro va1 wa hOa hga hata; rw [Nat.zero_add, List.nil_append] at hOa; have hba := hga1 wa hga; have U0 := (hba.cell (p := ⟨Z, 0, none⟩) (by show Z < _; omega)).trans t0; obtain ⟨pu1, pu2, pu3⟩ := HPU.out va1 wa hOa hba; have HPU3 := hideD pu3; clear pu3; obtain ⟨a1, ac1, rfl, hl1, hm1⟩ := ownf_form hOa)
            | (refine step_append_at _ (by rfl) (.tmp 48) (.tmp 59) 49 49 (by rfl) 0 56 i0 (.agg #[.int .i64 0, .slice none 0 0, .int .i64 0]) 3 40 Try.underlying49 hi0 hz0 hz1 hz2 rfl u4 E'.length (celE E') (by rfl) pu1 _ 1 (celE [(nn, .slice a1 K ac1, sb.take K, K)]) (by rfl) pu2 1 (.inr (by omega)) (Nat.le_refl _) (by unfold maxLen; omega) (Nat.zero_le _) ?_; intro vt wt hOt hgt hatt; have HEND := hideD (HPU3.out vt wt hOt hgt hatt))
            | fail)
          all_goals
            go_wp2
            go_roundw
            case rel => exact ⟨j + 1, E' ++ [(nn, .slice a1 K ac1, sb.take K, K)], hlt, by go_num, hideD HEND.out.1, by
              show mmE (E' ++ _) = _
              rw [crL_step hdl, HDJ.out, HT.out, HKK.out, if_neg hK0, mmE_app, HEj.out]
              rfl, hideD HEND.out.2⟩
            case measure => simp [RowKit.intOf]; omega
    · have i1 : ¬ (j : Int) < (n : Int) := by omega
      obtain ⟨ta, tc, rfl, _, _⟩ := HQj.out.form
      have hBn := HB.out.on HBj.out
      obtain ⟨C00, F00⟩ := hBn 0 _ rfl
      obtain ⟨C22, F22⟩ := hBn 2 _ rfl
      obtain ⟨C33, F33⟩ := hBn 3 _ rfl
      have hen := crash_end g1 hYl HBj.out HQj.out HB.out
      have HEN := hideD hen
      clear hen hBn
      go_wp2
      go_end0
      have e : d.L.take j = d.L := List.take_of_length_le (by rw [← HLE.out, HN.out]; omega)
      have h1 := HEj.out
      rw [e] at h1
      refine ⟨rfl, ?_, HEN.out.2⟩
      have h2 := HEN.out.1
      rw [h1] at h2
      rw [← HD.out]
      exact h2

set_option maxRecDepth 100000 in
set_option maxHeartbeats 8000000 in
theorem lsame_any {w : World} {X Y : Nat} {F G : Nat → Prop} {d : Dk} (hp : PD w X F d) (hq : QD w Y G d) (hu : usM d.L ≤ 1000000) (hl : d.L.length ≤ 100000) (hw : ∀ x ∈ d.L, (Lit.int .i64 x.1).wf = true) :
    Calls Try.prog 10 #[.pointer (some ⟨X, 0, none⟩), .pointer (some ⟨Y, 0, none⟩)] w fun e w' => e = .returned (.bool true) ∧ Below w.heap.size w w' := by
  have hsg := dsegs_any hp hl
  obtain ⟨Lv, E, h⟩ := hq
  obtain ⟨n, hn⟩ : ∃ n, d.L.length = n := ⟨_, rfl⟩
  have hlE : E.length = n := by rw [← hn, ← h.2.1]; simp [mmE]
  obtain ⟨U, hU⟩ : ∃ U, usM d.L = U := ⟨_, rfl⟩
  rw [hn] at hsg
  have HN := hideD hn
  have HU := hideD hU
  have HP := hideD hp
  have HQ := hideD h
  have HLE := hideD hlE
  have HW := hideD hw
  have hl2 : n ≤ 100000 := by omega
  have hu2 := hideD hu
  have hu3 := hideD hl
  clear hn hU hp h hlE hw hu hl
  go_enter Try.func10, Try.ntmps10
  go_upto_region 2 with (first
    | (go_at_call 11; refine hsg.mono ?_; rintro e w1 ⟨⟨sv, rfl, ho⟩, b1⟩; clear hsg; obtain ⟨sa, sc, rfl, hsl, hsm⟩ := dorow_form ho)
    | fail)
  have hQ1 := HQ.out.on b1
  have hP1 := HP.out.on b1
  obtain ⟨a, cap, e, hlc, hcm⟩ := hQ1.2.2.1.form
  subst e
  have c0 := (hQ1.2.2.2 0 _ rfl).1
  have c3 := (hQ1.2.2.2 3 _ rfl).1
  rw [HLE.out] at c0 hlc
  have hU1 : ∀ m, Calls Try.prog 17 #[.pointer (some ⟨X, 0, none⟩)] (w1.drewN m) fun e w' => e = .returned (.int .i64 (U : Int)) ∧ ∃ k, w' = w1.drewN k := fun m => (dused_any (w := w1.drewN m) (hP1.keep (fun _ _ _ => rfl))).mono (fun e w' hh => ⟨by rw [← HU.out]; exact hh.1, m, hh.2.symm⟩)
  have hU2 : ∀ m, Calls Try.prog 29 #[.pointer (some ⟨Y, 0, none⟩)] (w1.drewN m) fun e w' => e = .returned (.int .i64 (U : Int)) ∧ ∃ k, w' = w1.drewN k := fun m => (hQ1.usq hu2.out m).mono (fun e w' hh => ⟨by rw [← HU.out]; exact hh.1, hh.2⟩)
  have hD1 : ∀ m, Calls Try.prog 15 #[.pointer (some ⟨X, 0, none⟩)] (w1.drewN m) fun e w' => e = .returned (.bool d.dead) ∧ ∃ k, w' = w1.drewN k := fun m => (ddown_any (w := w1.drewN m) (hP1.keep (fun _ _ _ => rfl))).mono (fun e w' hh => ⟨hh.1, m, hh.2.symm⟩)
  have HO := hideD ho
  have HB := hideD b1
  have HQ1 := hideD hQ1
  have HP1 := hideD hP1
  obtain ⟨dd, hdd⟩ : ∃ b, d.dead = b := ⟨_, rfl⟩
  rw [hdd] at hD1 c3
  clear ho b1 hQ1 hP1 hdd
  go_quiet (first | exact hU1 _ | exact hU2 _ | exact hD1 _)
  go_wp2
  generalize hw2 : w1.drewN nq = w2 at *
  have hb2 : Below w1.heap.size w1 w2 := by
    rw [← hw2]
    exact ⟨rfl, rfl, rfl, Nat.le_refl _, fun _ _ => rfl⟩
  have HB2 := hideD hb2
  have hs2 := hb2.size
  clear hw2 hU1 hU2 hD1 hb2
  go_loopw [37] (fun ix wr => ∃ (j : Nat), j ≤ n ∧ ix = .int .i64 (j : Int) ∧ Hid (Below w1.heap.size w1 wr)) (fun ix _ => n - (RowKit.intOf ix).toNat)
  case atStart => exact ⟨0, Nat.zero_le _, rfl, HB2⟩
  case round =>
    obtain ⟨j, hj, rfl, HBj⟩ := hrel
    by_cases hlt : j < n
    · have hjl : j < E.length := by rw [HLE.out]; exact hlt
      have hmm := HQ.out.2.1
      have hdl : j < d.L.length := by rw [HN.out]; exact hlt
      have hQr := HQ1.out.on HBj.out
      have hPr := HP1.out.on HBj.out
      obtain ⟨g, cap', e, _, _, hgl, x0, x1, x2⟩ := QR.at hQr.2.2.1 hjl
      simp only [Value.slice.injEq] at e
      have ha := e.1
      clear e
      subst ha
      obtain ⟨ho, hof⟩ := hQr.2.2.1.s _ (List.getElem_mem hjl)
      have hdj : d.L[j] = ((E[j]).1, (E[j]).2.2) := by simp only [← hmm]; simp [mmE]
      obtain ⟨x, hx⟩ : ∃ x, E[j] = x := ⟨_, rfl⟩
      rw [hx] at x0 x1 x2 ho hof hdj
      obtain ⟨nn, sv, sb, sn⟩ := x
      simp only at x0 x1 x2 ho hof hdj
      obtain ⟨s1, s2, rfl, hs1, hs2'⟩ := slice_form ho
      have hris : Ris d.L := by rw [← hmm]; exact ris_mmE HQ.out.2.2.1.r
      have hmem : (nn, sb, sn) ∈ d.L := by rw [← hdj]; exact List.getElem_mem hdl
      have hlk : lk nn d.L = some (sb, sn) := lk_of hris hmem
      have hwf := HW.out _ hmem
      simp only at hwf
      obtain ⟨gs, rfl⟩ : ∃ gs, sa = some ⟨gs, 0, none⟩ := by
        rcases HO.out.2 with ⟨e, h0⟩ | ⟨gs, cap, cur, e, _⟩
        · have := HN.out
          omega
        · simp only [Value.slice.injEq] at e
          exact ⟨gs, e.1⟩
      have hgb := World.ownsRow.lt HO.out gs rfl
      have cj := World.ownsRow.cells HO.out (g := gs) rfl j (.int .i64 (d.L[j]).1) (by simp [hdl])
      rw [add_plain, Nat.zero_add, hdj] at cj
      simp only at cj
      have Cj := (HBj.out.cell (p := ⟨gs, j, none⟩) hgb.2).trans cj
      have hYlt := HQ1.out.2.2.2.lt
      have C0 := (HBj.out.cell (p := ⟨Y, 0, none⟩) hYlt).trans c0
      have hSy : ∀ m, Calls Try.prog 13 #[.pointer (some ⟨X, 0, none⟩), .int .i64 nn] (wr.drewN m) fun e w' => e = .returned (.int .i64 (sn : Int)) ∧ ∃ k, w' = wr.drewN k := fun m => (dsynced_any (w := wr.drewN m) (hPr.keep (fun _ _ _ => rfl)) hwf).mono (fun e w' hh => ⟨by rw [hlk] at hh; exact hh.1, m, hh.2.symm⟩)
      have hRd := fun m => dread_any (w := wr.drewN m) (hPr.keep (fun _ _ _ => rfl)) hu2.out hwf
      have hred : redD d nn = if d.dead = true then ([], 8) else (sb, 0) := by
        unfold redD
        rw [hlk]
      rw [hred] at hRd
      have HOs := hideD ho
      have hszr := HBj.out.size
      have i1 : (j : Int) < (n : Int) := by omega
      have i2 : (0 : Int) ≤ (j : Int) := by omega
      clear cj hwf hmem hris hmm hx hdj ho hof hred hlk hPr hQr
      go_upto_region 7 with fail
      go_quiet (first | exact hSy _)
      have hbr : Below w1.heap.size w1 (wr.drewN nq) := ⟨HBj.out.os, HBj.out.tape, HBj.out.output, by simpa using HBj.out.size, HBj.out.block⟩
      have hRr : Rd (wr.drewN nq) (.slice s1 sb.length s2) sb := rd_on HOs.out.rd ⟨rfl, rfl, rfl, Nat.le_refl _, fun _ _ => rfl⟩
      have hRd := hRd nq
      have X1 : (wr.drewN nq).cell? ⟨g, j * 3 + 1, none⟩ = some (.slice s1 sb.length s2) := x1
      have Y0 : (wr.drewN nq).cell? ⟨Y, 0, none⟩ = some (.slice (some ⟨g, 0, none⟩) n cap) := C0
      have S1 : (wr.drewN nq).cell? ⟨gs, j, none⟩ = some (.int .i64 nn) := Cj
      have hg3 : g < (wr.drewN nq).heap.size := hgl
      have hY3 : Y < (wr.drewN nq).heap.size := by show Y < wr.heap.size; omega
      generalize wr.drewN nq = w3 at hbr hRr hRd X1 Y0 S1 hg3 hY3 ⊢
      clear hSy x0 x1 x2 Cj C0
      by_cases hd : d.dead = true
      · rw [if_pos hd] at hRd
        go_upto_region 10 with (first
          | (go_at_call 12; refine hRd.mono ?_; rintro e w4 ⟨⟨v4, rfl, o4⟩, b4⟩; clear hRd; obtain ⟨r1, r2, rfl, _, _⟩ := slice_form (o4))
          | fail)
        have HE4 := hideD (hbr.trans (b4.mono hbr.size))
        clear o4 b4
        go_wp2
        go_quiet (fail)
        go_wp2
        go_roundw
        case rel => exact ⟨j + 1, hlt, by go_num, hideD (by
          have h := HE4.out
          exact ⟨h.os, h.tape, h.output, by simpa using h.size, h.block⟩)⟩
        case measure => simp [RowKit.intOf]; omega
      · rw [if_neg hd] at hRd
        go_upto_region 10 with (first
          | (go_at_call 12; refine hRd.mono ?_; rintro e w4 ⟨⟨v4, rfl, o4⟩, b4⟩; clear hRd; obtain ⟨r1, r2, rfl, _, _⟩ := slice_form (o4))
          | fail)
        have HE4 := hideD (hbr.trans (b4.mono hbr.size))
        have hc1 : ∀ m, (convert 30 9 (.slice r1 sb.length r2)).run Try.prog (w4.drewN m) = .ok (.string (strOfNums sb)) (w4.drewN m) := fun m => (show Rd (w4.drewN m) _ _ from rd_on o4.rd ⟨rfl, rfl, rfl, Nat.le_refl _, fun _ _ => rfl⟩).convert Try.underlying30 Try.underlying5 Try.underlying9
        have hc2 : ∀ m, (convert 30 9 (.slice s1 sb.length s2)).run Try.prog (w4.drewN m) = .ok (.string (strOfNums sb)) (w4.drewN m) := fun m => (show Rd (w4.drewN m) _ _ from rd_on (rd_on hRr b4) ⟨rfl, rfl, rfl, Nat.le_refl _, fun _ _ => rfl⟩).convert Try.underlying30 Try.underlying5 Try.underlying9
        have Y4 := (b4.cell (p := ⟨Y, 0, none⟩) hY3).trans Y0
        have X4 := (b4.cell (p := ⟨g, j * 3 + 1, none⟩) hg3).trans X1
        clear o4 b4 hRr
        go_quiet (fail)
        go_wp2
        go_roundw
        case rel => exact ⟨j + 1, hlt, by go_num, hideD (by
          have h := HE4.out
          exact ⟨h.os, h.tape, h.output, by simpa using h.size, h.block⟩)⟩
        case measure => simp [RowKit.intOf]; omega
    · have k1 : ¬ (j : Int) < (n : Int) := by omega
      have HEND := hideD (HB.out.trans (HBj.out.mono HB.out.size))
      go_wp2
      go_ret
      exact ⟨rfl, HEND.out⟩
end Go.Proofs.Ytibmbbiipffooaa

/- Two disks side by side; what a call of the law's leaves. -/
namespace Go.Proofs.Ytibmbbiipffooaa
open Go.RowKit Go.Lib Go.Maps
set_option linter.unusedSimpArgs false
set_option linter.unusedVariables false

/-- The program's disk d in block X, the document's disk e in block Y, in memory apart, all of it in blocks of A. -/
def T2 (w : World) (A : Nat → Prop) (X Y : Nat) (d e : Dk) : Prop := ∃ F G : Nat → Prop, PD w X F d ∧ QD w Y G e ∧ (∀ j, F j → A j ∧ j < w.heap.size ∧ ¬ G j) ∧ ∀ j, G j → A j ∧ j < w.heap.size
theorem PD.clip {w : World} {X : Nat} {F : Nat → Prop} {d : Dk} (h : PD w X F d) : PD w X (cF F w) d := h.mono (fun j hj hF => ⟨hF, hj⟩)
theorem QD.clip {w : World} {Y : Nat} {G : Nat → Prop} {d : Dk} (h : QD w Y G d) : QD w Y (cF G w) d := h.keep (fun _ _ _ => rfl) (fun j hj hG => ⟨hG, hj⟩)
theorem QD.on {w w' : World} {Y : Nat} {G : Nat → Prop} {d : Dk} (h : QD w Y G d) (hb : Below w.heap.size w w') : QD w' Y G d := h.keep (fun b _ hlt => hb.block b hlt) (fun _ _ h => h)
theorem T2.keep {w w' : World} {A A' : Nat → Prop} {X Y : Nat} {d e : Dk} (h : T2 w A X Y d e) (hs : w.heap.size ≤ w'.heap.size) (hk : ∀ j, A j → j < w.heap.size → w'.heap[j]? = w.heap[j]?) (hA : ∀ j, j < w.heap.size → A j → A' j) : T2 w' A' X Y d e := by
  obtain ⟨F, G, h1, h2, h3, h4⟩ := h
  exact ⟨F, G, h1.keep (fun b hb hlt => hk b (h3 b hb).1 hlt), h2.keep (fun b hb hlt => hk b (h4 b hb).1 hlt) (fun _ _ h => h), fun j hj => by have := h3 j hj; exact ⟨hA j this.2.1 this.1, by omega, this.2.2⟩, fun j hj => by have := h4 j hj; exact ⟨hA j this.2 this.1, by omega⟩⟩
theorem T2.on {w w' : World} {A : Nat → Prop} {X Y : Nat} {d e : Dk} (h : T2 w A X Y d e) (hb : Below w.heap.size w w') : T2 w' A X Y d e := h.keep hb.size (fun j _ hlt => hb.block j hlt) (fun _ _ h => h)
/-- What is new is none of theirs. -/
theorem T2.but {w : World} {A : Nat → Prop} {X Y : Nat} {d e : Dk} (h : T2 w A X Y d e) {N : Nat} (hN : w.heap.size ≤ N) : T2 w (fun j => A j ∧ j ≠ N) X Y d e := h.keep (Nat.le_refl _) (fun _ _ _ => rfl) (fun j hj hA => ⟨hA, by omega⟩)
theorem T2.x {w : World} {A : Nat → Prop} {X Y : Nat} {d e : Dk} (h : T2 w A X Y d e) : A X ∧ X < w.heap.size := by
  obtain ⟨F, G, h1, h2, h3, h4⟩ := h
  obtain ⟨mv, E, fz, q1, _⟩ := h1
  exact ⟨(h3 X q1).1, (h3 X q1).2.1⟩
theorem T2.y {w : World} {A : Nat → Prop} {X Y : Nat} {d e : Dk} (h : T2 w A X Y d e) : A Y ∧ Y < w.heap.size := by
  obtain ⟨F, G, h1, h2, h3, h4⟩ := h
  obtain ⟨Lv, E, q1, _⟩ := h2
  exact h4 Y q1
/-- A step of the program's disk. -/
theorem T2.stepP {w : World} {A : Nat → Prop} {X Y : Nat} {d d' e : Dk} {f : Nat} {args : Array Value} {Q : Ending → World → Prop} (h : T2 w A X Y d e) (hA : ∀ j, w.heap.size ≤ j → A j)
    (hc : ∀ F, PD w X F d → (∀ j, F j → A j) → Calls Try.prog f args w fun r w' => Q r w' ∧ PD w' X (nF F w) d' ∧ Kf F w w') : Calls Try.prog f args w fun r w' => Q r w' ∧ T2 w' A X Y d' e ∧ Kf A w w' := by
  obtain ⟨F, G, h1, h2, h3, h4⟩ := h
  refine (hc F h1 (fun j hj => (h3 j hj).1)).mono ?_
  rintro r w' ⟨hq, p', k⟩
  have hs := k.size
  refine ⟨hq, ⟨cF (nF F w) w', G, p'.clip, h2.keep (fun b hb hlt => k.block b hlt (fun hF => (h3 b hF).2.2 hb)) (fun _ _ h => h), fun j hj => ?_, fun j hj => ?_⟩, k.mono (fun j hj => (h3 j hj).1)⟩
  · obtain ⟨hj1 | hj1, hj2⟩ := hj
    · exact ⟨(h3 j hj1).1, hj2, (h3 j hj1).2.2⟩
    · exact ⟨hA j hj1, hj2, fun hG => by have := (h4 j hG).2; omega⟩
  · have := h4 j hj
    exact ⟨this.1, by omega⟩
/-- A step of the document's disk. -/
theorem T2.stepQ {w : World} {A : Nat → Prop} {X Y : Nat} {d e e' : Dk} {f : Nat} {args : Array Value} {Q : Ending → World → Prop} (h : T2 w A X Y d e) (hA : ∀ j, w.heap.size ≤ j → A j)
    (hc : ∀ G, QD w Y G e → (∀ j, G j → A j) → Calls Try.prog f args w fun r w' => Q r w' ∧ QD w' Y (nF G w) e' ∧ Kf G w w') : Calls Try.prog f args w fun r w' => Q r w' ∧ T2 w' A X Y d e' ∧ Kf A w w' := by
  obtain ⟨F, G, h1, h2, h3, h4⟩ := h
  refine (hc G h2 (fun j hj => (h4 j hj).1)).mono ?_
  rintro r w' ⟨hq, p', k⟩
  have hs := k.size
  refine ⟨hq, ⟨F, cF (nF G w) w', h1.keep (fun b hb hlt => k.block b hlt (fun hG => (h3 b hb).2.2 hG)), p'.clip, fun j hj => ?_, fun j hj => ?_⟩, k.mono (fun j hj => (h4 j hj).1)⟩
  · have := h3 j hj
    refine ⟨this.1, by omega, ?_⟩
    rintro ⟨hG | hG, _⟩
    · exact this.2.2 hG
    · omega
  · obtain ⟨hj1 | hj1, hj2⟩ := hj
    · exact ⟨(h4 j hj1).1, hj2⟩
    · exact ⟨hA j hj1, hj2⟩
/-- A row in blocks that are not in A is left as it is. -/
theorem rd_kf {u w w1 : World} {A F : Nat → Prop} {v : Value} {bs : List Int} (h : Rd u v bs) (hu : Kf A u w) (hA : ∀ j, A j → u.heap.size ≤ j) (hF : ∀ j, F j → A j) (k : Kf F w w1) : Rd w1 v bs := rd_on h ((hu.trans (k.mono hF)).below hA (Nat.le_refl _))
theorem rdI_kf {u w w1 : World} {A F : Nat → Prop} {v : Value} {bs : List Int} (h : RdI u bs v) (hu : Kf A u w) (hA : ∀ j, A j → u.heap.size ≤ j) (hF : ∀ j, F j → A j) (k : Kf F w w1) : RdI w1 bs v := h.on ((hu.trans (k.mono hF)).below hA (Nat.le_refl _))
theorem Bn.kA {w w' : World} {N : Nat} {A : Nat → Prop} {c : Value} {cs : List Value} (h : Bn w N (c :: cs)) (hk : Kf A w w') (hN : ¬ A N) : Bn w' N (c :: cs) := h.blk (hk.block N h.lt hN)

theorem pt_len_of {β : Type} {n : Int} {b s : β} : ∀ {l : List (Int × β)}, Ris l → lk n l = some s → (pt n b l).length = l.length
  | [], _, h => by simp [lk] at h
  | y :: r, hs, h => by
    obtain ⟨h1, h2⟩ := List.pairwise_cons.1 hs
    unfold lk at h
    unfold pt
    by_cases he : y.1 = n
    · rw [if_neg (by omega), if_pos he]
      rfl
    · rw [if_neg he] at h
      have hm := h1 _ (lk_mem h)
      simp only at hm
      rw [if_neg (by omega), if_neg he, List.length_cons, List.length_cons, pt_len_of h2 h]
/-- Bytes as bytes are, and bounds. -/
structure Ok (d : Dk) (n u : Nat) : Prop where
  r : Ris d.L
  s : ∀ x ∈ d.L, x.2.2 ≤ x.2.1.length ∧ (Lit.int .i64 x.1).wf = true
  room : 0 ≤ d.room ∧ d.room ≤ 9223372036854775807
  fuse : -1 ≤ d.fuse ∧ d.fuse ≤ 9223372036854775807
  len : d.L.length ≤ n
  us : usM d.L ≤ u
theorem Ok.mono {d : Dk} {n u n' u' : Nat} (h : Ok d n u) (h1 : n ≤ n') (h2 : u ≤ u') : Ok d n' u' := ⟨h.r, h.s, h.room, h.fuse, Nat.le_trans h.len h1, Nat.le_trans h.us h2⟩
theorem Ok.L {d e : Dk} {n u : Nat} (h : Ok d n u) (h1 : e.L = d.L) (h2 : e.room = d.room) (h3 : -1 ≤ e.fuse ∧ e.fuse ≤ 9223372036854775807) : Ok e n u := by
  constructor
  · rw [h1]; exact h.r
  · rw [h1]; exact h.s
  · rw [h2]; exact h.room
  · exact h3
  · rw [h1]; exact h.len
  · rw [h1]; exact h.us
theorem brn_fuse {d : Dk} (h : -1 ≤ d.fuse ∧ d.fuse ≤ 9223372036854775807) : -1 ≤ (brn d).fuse ∧ (brn d).fuse ≤ 9223372036854775807 := by
  unfold brn
  split
  · exact h
  · split
    · simp only
      omega
    · exact h
theorem Ok.brn {d : Dk} {n u : Nat} (h : Ok d n u) : Ok (brn d) n u := h.L (brn_L d).1 (brn_L d).2 (brn_fuse h.fuse)
theorem ok_new (n : Int) (hn : n ≤ 9223372036854775807) : Ok ⟨[], max n 0, -1, false⟩ 0 0 := ⟨List.Pairwise.nil, fun x hx => absurd hx (by simp), by simp only; omega, by simp, by simp, by simp [usM]⟩
theorem Ok.app {d : Dk} {n u : Nat} (h : Ok d n u) {k : Int} (hk : (Lit.int .i64 k).wf = true) (bs : List Int) : Ok (appD d k bs).1 (n + 1) (u + bs.length) := by
  unfold appD
  split
  · exact h.mono (by omega) (by omega)
  · split
    · exact h.mono (by omega) (by omega)
    · split
      · exact h.mono (by omega) (by omega)
      · split
        · exact h.brn.mono (by omega) (by omega)
        · have h1 := pt_len k (((lk k d.L).getD ([], 0)).1 ++ bs, ((lk k d.L).getD ([], 0)).2) d.L
          have h2 := usM_app (n := k) (bs := bs) h.r (show (lk k d.L).getD ([], 0) = (((lk k d.L).getD ([], 0)).1, ((lk k d.L).getD ([], 0)).2) from rfl)
          have h3 := h.len
          have h4 := h.us
          refine ⟨ris_pt h.r, fun x hx => ?_, by show 0 ≤ (_root_.Go.Proofs.Ytibmbbiipffooaa.brn d).room ∧ (_root_.Go.Proofs.Ytibmbbiipffooaa.brn d).room ≤ _; rw [(brn_L d).2]; exact h.room, brn_fuse h.fuse, by simp only; omega, by simp only; omega⟩
          rcases mem_pt h.r hx with rfl | ⟨hx, _⟩
          · refine ⟨?_, hk⟩
            simp only [List.length_append]
            cases hl : lk k d.L with
            | none => simp
            | some s =>
              have := (h.s _ (lk_mem hl)).1
              simp only at this
              simp only [Option.getD_some]
              omega
          · exact h.s x hx
theorem Ok.syn {d : Dk} {n u : Nat} (h : Ok d n u) {k : Int} (hk : (Lit.int .i64 k).wf = true) : Ok (opM d k (synF d k)).1 n u := by
  unfold opM
  split
  · exact h
  · cases hl : lk k d.L with
    | none => exact h
    | some s =>
      simp only
      split
      · exact h.brn
      · have h2 := usM_syn (k := s.1.length) h.r hl
        have h3 := h.us
        refine ⟨ris_pt h.r, fun x hx => ?_, by show 0 ≤ (_root_.Go.Proofs.Ytibmbbiipffooaa.brn d).room ∧ (_root_.Go.Proofs.Ytibmbbiipffooaa.brn d).room ≤ _; rw [(brn_L d).2]; exact h.room, brn_fuse h.fuse, ?_, by show usM (pt k _ d.L) ≤ u; omega⟩
        · rcases mem_pt h.r hx with rfl | ⟨hx, _⟩
          · exact ⟨Nat.le_refl _, hk⟩
          · exact h.s x hx
        · show (pt k (s.1, s.1.length) d.L).length ≤ n
          rw [pt_len_of h.r hl]
          exact h.len
theorem Ok.drp {d : Dk} {n u : Nat} (h : Ok d n u) (k : Int) : Ok (opM d k (drpF d k)).1 n u := by
  unfold opM
  split
  · exact h
  · cases hl : lk k d.L with
    | none => exact h
    | some s =>
      simp only
      split
      · exact h.brn
      · have h2 := (usM_del h.r hl).1
        have h3 := h.us
        have h4 := dl_len k d.L
        have h5 := h.len
        exact ⟨ris_dl h.r, fun x hx => h.s x (mem_dl.1 hx).1, by show 0 ≤ (_root_.Go.Proofs.Ytibmbbiipffooaa.brn d).room ∧ (_root_.Go.Proofs.Ytibmbbiipffooaa.brn d).room ≤ _; rw [(brn_L d).2]; exact h.room, brn_fuse h.fuse, by show (dl k d.L).length ≤ n; omega, by show usM (dl k d.L) ≤ u; omega⟩
theorem crL_ok {kp : Nat → Int} : ∀ {l : List (Int × Sm)} {i : Nat} {a : Int × Sm}, (∀ x ∈ l, x.2.2 ≤ x.2.1.length) → a ∈ crL kp i l → a.2.2 ≤ a.2.1.length
  | [], i, a, _, h => by simp [crL] at h
  | x :: r, i, a, hs, h => by
    rw [crL_cons] at h
    have hx := kpN_le (kp i) (hs x List.mem_cons_self)
    split at h
    · exact crL_ok (fun y hy => hs y (List.mem_cons_of_mem _ hy)) h
    · rcases List.mem_cons.1 h with rfl | h
      · simp only [List.length_take]
        omega
      · exact crL_ok (fun y hy => hs y (List.mem_cons_of_mem _ hy)) h
theorem Ok.cr {d : Dk} {n u : Nat} (h : Ok d n u) (ls : List Int) : Ok (crD d ls) n u := by
  obtain ⟨h1, h2⟩ := crL_us (kp := kpA ls) 0 (fun x hx => (h.s x hx).1)
  have h3 := h.us
  have h4 := h.len
  refine ⟨crL_ris h.r, fun x hx => ⟨crL_ok (fun x hx => (h.s x hx).1) hx, ?_⟩, h.room, by simp [crD], by show (crL _ _ _).length ≤ n; omega, by show usM (crL _ _ _) ≤ u; omega⟩
  obtain ⟨y, hy, e⟩ := crL_mem hx
  rw [e]
  exact (h.s y hy).2
theorem Ok.spo {d : Dk} {n u : Nat} (h : Ok d n u) {k : Int} (hk : (Lit.int .i64 k).wf = true) (a b : Int) : Ok (spoD d k a b).1 n u := by
  unfold spoD
  split
  · exact h
  · rename_i hc
    cases hl : lk k d.L with
    | none =>
      rw [hl] at hc
      simp only [Option.getD_none, List.length_nil] at hc
      omega
    | some s =>
      simp only [Option.getD_some]
      have h2 := usM_pt k ((s.1.set a.toNat (xrB (s.1.getD a.toNat 0) b)), s.2) h.r
      rw [hl] at h2
      simp only [Option.getD_some, List.length_set] at h2
      have h3 := h.us
      refine ⟨ris_pt h.r, fun x hx => ?_, h.room, h.fuse, ?_, by simp only; omega⟩
      · rcases mem_pt h.r hx with rfl | ⟨hx, _⟩
        · refine ⟨?_, hk⟩
          simp only [List.length_set]
          exact (h.s _ (lk_mem hl)).1
        · exact h.s x hx
      · simp only
        rw [pt_len_of h.r hl]
        exact h.len

/-- What a call leaves. -/
def doD (d : Dk) (x : OpM) : Dk :=
  if x.kind = 1 then (appD d x.a x.bs).1 else if x.kind = 2 then (opM d x.a (synF d x.a)).1 else if x.kind = 3 then (opM d x.a (drpF d x.a)).1
  else if x.kind = 5 then { d with fuse := max x.a (-1) } else if x.kind = 6 then { d with room := max x.a 0 } else if x.kind = 7 then crD d x.ls else if x.kind = 8 then (spoD d x.a x.b x.y).1 else d
theorem wf_in {k : Int} (h : (Lit.int .i64 k).wf = true) : -9223372036854775808 ≤ k ∧ k ≤ 9223372036854775807 := by simpa [Lit.wf, IntKind.min, IntKind.max, IntKind.signed, IntKind.bits] using h
theorem Ok.do {d : Dk} {n u : Nat} (h : Ok d n u) {x : OpM} (hx : WfO x) : Ok (doD d x) (n + 1) (u + x.bs.length) := by
  have hm := fun (e : Dk) (k : Ok e n u) => k.mono (show n ≤ n + 1 by omega) (show u ≤ u + x.bs.length by omega)
  have ha := wf_in hx.a
  unfold doD
  split
  · exact h.app hx.a _
  split
  · exact hm _ (h.syn hx.a)
  split
  · exact hm _ (h.drp _)
  split
  · exact hm _ (h.L rfl rfl (by simp only; omega))
  split
  · exact hm _ ⟨h.r, h.s, by simp only; omega, h.fuse, h.len, h.us⟩
  split
  · exact hm _ (h.cr _)
  split
  · exact hm _ (h.spo hx.a _ _)
  · exact hm _ h
end Go.Proofs.Ytibmbbiipffooaa

/- The document's disk: Spoil. -/
namespace Go.Proofs.Ytibmbbiipffooaa
open Go.RowKit Go.Lib Go.Maps
set_option linter.unusedSimpArgs false
set_option linter.unusedVariables false
attribute [local go_sem ↓] Go.wp_at_zero Go.wp_at_succ

set_option maxRecDepth 100000 in
set_option maxHeartbeats 4000000 in
theorem qspoil_any {w : World} {Y : Nat} {G : Nat → Prop} {d : Dk} {n k y : Int} (h0 : QD w Y G d) (hu : usM d.L ≤ 1000000) :
    Calls Try.prog 28 #[.pointer (some ⟨Y, 0, none⟩), .int .i64 n, .int .i64 k, .int .u8 y] w fun e w' => e = .returned (.bool (spoD d n k y).2) ∧ QD w' Y (nF G w) (spoD d n k y).1 ∧ Kf G w w' := by
  obtain ⟨Lv, E, h⟩ := h0
  have hf := qfind_any h n
  have hw : QD w Y (nF G w) d := ⟨Lv, E, h.keep (fun _ _ _ => rfl) (fun j _ hj => .inl hj)⟩
  obtain ⟨g1, g2, g3, g4⟩ := id h.clip
  have hlk := mmE_lk n E
  rw [g2] at hlk
  unfold spoD
  cases hq : lk n E with
  | none =>
    rw [hq] at hlk
    rw [hlk]
    simp only [Option.map_none, Option.getD_none, List.length_nil]
    rw [if_pos (by omega)]
    rw [fI_no 0 hq] at hf
    clear h g2 g3 g4 hlk hq
    go_enter Try.func28, Try.ntmps28
    go_wp2_with (first
      | (go_at_call 38; refine hf.mono ?_; rintro e w2 ⟨rfl, rfl⟩; clear hf)
      | fail)
    go_ret
    exact ⟨rfl, hw, Kf.refl _ _⟩
  | some s =>
    rw [hq] at hlk
    obtain ⟨sv, sb, sn⟩ := s
    simp only [Option.map_some] at hlk
    rw [hlk]
    simp only [Option.getD_some]
    obtain ⟨i, hi, e1, e2⟩ := fI_at 0 hq
    rw [e1, Nat.zero_add] at hf
    obtain ⟨c0, f0⟩ := g4 0 _ rfl
    obtain ⟨g, cap', e', _, _, hgl, d0, d1, d2⟩ := g3.at hi
    rw [e2] at d1
    obtain ⟨ho, hof⟩ := g3.s _ (List.getElem_mem hi)
    rw [e2] at ho hof d0 d2
    simp only at ho hof d1 d0 d2
    obtain ⟨sa, sc, rfl, hsl, hsm⟩ := slice_form ho
    subst e'
    obtain ⟨ln, hln⟩ : ∃ k, E.length = k := ⟨_, rfl⟩
    have hi2 := hi
    rw [hln] at c0 hi2
    have i3 : ¬ (i : Int) < 0 := by omega
    have i1 : (0 : Int) ≤ (i : Int) := by omega
    have i2 : (i : Int) < (ln : Int) := by omega
    obtain ⟨m, hm⟩ : ∃ k, sb.length = k := ⟨_, rfl⟩
    by_cases hk0 : k < 0
    · rw [if_pos (.inl hk0)]
      clear h g2 g3 g4 hlk hq e1 e2 ho hof hln
      go_enter Try.func28, Try.ntmps28
      go_wp2_with (first
        | (go_at_call 38; refine hf.mono ?_; rintro e w2 ⟨rfl, rfl⟩; clear hf)
        | fail)
      go_ret
      exact ⟨rfl, hw, Kf.refl _ _⟩
    by_cases hk1 : k ≥ (sb.length : Int)
    · rw [if_pos (.inr hk1)]
      clear h g2 g3 g4 hlk hq e1 e2 ho hof hln hm
      go_enter Try.func28, Try.ntmps28
      go_wp2_with (first
        | (go_at_call 38; refine hf.mono ?_; rintro e w2 ⟨rfl, rfl⟩; clear hf)
        | fail)
      go_ret
      exact ⟨rfl, hw, Kf.refl _ _⟩
    rw [if_neg (by omega)]
    obtain ⟨p, rfl⟩ : ∃ p : Nat, k = (p : Int) := ⟨k.toNat, by omega⟩
    rw [Int.toNat_natCast]
    have hp : p < sb.length := by omega
    have hus := usM_lk hlk
    simp only at hus
    obtain ⟨B, hB⟩ : ∃ B, sb.getD p 0 = B := ⟨_, rfl⟩
    rw [hB]
    obtain ⟨D, hD⟩ : ∃ D : Dk, { d with L := pt n (sb.set p (xrB B y), sn) d.L } = D := ⟨_, rfl⟩
    rw [hD]
    have HD := hideD hD
    have hal : Below w.heap.size w (w.alloc (.cells #[] 5)) := (Below.refl _ _).alloc (Nat.le_refl _) _
    have hown : (w.alloc (.cells #[] 5)).ownsRow w.heap.size 5 1 (.slice (some ⟨w.heap.size, 0, none⟩) 0 0) 0 [] := World.ownsRow_made w #[] 0 (Nat.le_refl _) (Nat.zero_le _) rfl
    have hR := rd_on ho.rd hal
    have hsrc := hR.src (t := 30) (e := 5) Try.underlying30
    rw [hm] at hsrc
    have D1 := (hal.cell (p := ⟨g, i * 3 + 1, none⟩) hgl).trans d1
    have C0 := (hal.cell (p := ⟨Y, 0, none⟩) g4.lt).trans c0
    rw [hm] at d1 D1
    have hml : m ≤ 1000000 := by omega
    obtain ⟨i0, hi0, hz0, hz1, hz2⟩ := u8_inf
    have hgY := (g3.oo g rfl).2
    have hgw := (g3.oo g rfl).1.2
    have hYw := g1.2
    -- behind the append
    have hfin : ∀ (vb : Value) (wb : World), wb.ownsRow w.heap.size 5 1 vb m (sb.map (Value.int .u8)) → Below w.heap.size w wb → ∃ h cap2, vb = .slice (some ⟨h, 0, none⟩) m cap2 ∧ (m : Int) ≤ (cap2 : Int) ∧
        wb.cell? ⟨h, p, none⟩ = some (.int .u8 B) ∧ wb.frozen? ⟨h, p, none⟩ = false ∧ (wb.setCell ⟨h, p, none⟩ (.int .u8 (xrB B y))).cell? ⟨Y, 0, none⟩ = some (.slice (some ⟨g, 0, none⟩) ln cap') ∧
        (∃ u, (wb.setCell ⟨h, p, none⟩ (.int .u8 (xrB B y))).cell? ⟨g, i * 3 + 1, none⟩ = some u) ∧ (wb.setCell ⟨h, p, none⟩ (.int .u8 (xrB B y))).frozen? ⟨g, i * 3 + 1, none⟩ = false ∧
        QD ((wb.setCell ⟨h, p, none⟩ (.int .u8 (xrB B y))).setCell ⟨g, i * 3 + 1, none⟩ (.slice (some ⟨h, 0, none⟩) m cap2)) Y (nF G w) D ∧ Kf G w ((wb.setCell ⟨h, p, none⟩ (.int .u8 (xrB B y))).setCell ⟨g, i * 3 + 1, none⟩ (.slice (some ⟨h, 0, none⟩) m cap2)) := fun vb wb hO hb => by
      rcases hO.2 with ⟨_, e⟩ | ⟨q, cap2, cur, rfl, hq1, hq2, hq3, hq4, _⟩
      · omega
      have hql := (World.ownsRow.lt hO q rfl)
      have hc := World.ownsRow.cells hO (g := q) rfl p (.int .u8 B) (by rw [← hB]; simp [List.getD, hp])
      rw [add_plain, Nat.zero_add] at hc
      have hst := (World.ownsRow.stored hO p (.int .u8 (xrB B y))).1
      have hQb : QDE (wb.setCell ⟨q, p, none⟩ (.int .u8 (xrB B y))) Y (cF G w) d (.slice (some ⟨g, 0, none⟩) E.length cap') E := QDE.keep (w := w) ⟨g1, g2, g3, g4⟩ (fun b hb' _ => by
        rw [Below.heap_setCell _ _ _ _ (fun e => by have := hb'.2; have : b = q := e; omega)]
        exact hb.block b hb'.2) (fun _ _ h => h)
      obtain ⟨r1, r2, r3, r4⟩ := hQb
      have hst2 := (World.ownsRow.stored r3.o (i * 3 + 1) (.slice (some ⟨q, 0, none⟩) m cap2)).1
      rw [celE_set1 hi _ (sb.set p (xrB B y)), e2] at hst2
      simp only at hst2
      obtain ⟨i', hi', f1, f2, f3⟩ := pt_set (c := (.slice (some ⟨q, 0, none⟩) m cap2, sb.set p (xrB B y), sn)) r3.r hq
      have hii : i' = i := by rw [f1] at e1; omega
      subst hii
      rw [← f3] at hst2
      have hlen : (pt n (Value.slice (some ⟨q, 0, none⟩) m cap2, sb.set p (xrB B y), sn) E).length = E.length := by rw [f3, List.length_set]
      refine ⟨q, cap2, rfl, by omega, hc, World.ownsRow.frozenAt hO p, ?_, ⟨_, (cell_far4 (by omega) ((hb.cell (p := ⟨g, i' * 3 + 1, none⟩) hgw).trans d1))⟩, World.ownsRow.frozenAt r3.o _, ⟨_, _, .inl r1.1, ?_, r3.upd rfl (by rw [hlen]; exact hst2) (ris_pt r3.r) (fun x hx => ?_) (fun j _ hj => .inl hj.1), ?_⟩, ?_⟩
      · rw [← hln]
        exact (r4 0 _ rfl).1
      · rw [mmE_pt, g2, ← HD.out]
      · rcases mem_pt r3.r hx with rfl | ⟨hx, _⟩
        · refine .inr ⟨?_, fun z hz => ?_⟩
          · unfold Own
            rw [List.length_set, hm, List.map_set]
            exact ⟨hst.1, hst.2.imp id (fun ⟨a, b, c, e1, e2, e3⟩ => ⟨a, b, c, e1, Nat.zero_le _, e3⟩)⟩
          · have : z = q := (Option.some.inj hz).symm
            subst this
            exact ⟨.inr (by omega), by omega, by omega⟩
        · exact .inl hx
      · rw [← HD.out]
        exact r4.far hgY (i := i' * 3 + 1) _
      · exact ((Kf.of hb (Nat.le_refl _)).setNew (by omega) _).set (g3.oo g rfl).1.1 _
    have HF := hideD hfin
    have hpm : p < m := by omega
    have j1 : ¬ (p : Int) < 0 := by omega
    have j2 : ¬ (p : Int) ≥ (m : Int) := by omega
    have j3 : (0 : Int) ≤ (p : Int) := by omega
    have j4 : (p : Int) < (m : Int) := by omega
    rw [hm] at hsl
    clear h g2 g3 g4 hlk hq e1 e2 ho hof hln hm hfin hR hus hw hD hk0 hk1 hp
    go_enter Try.func28, Try.ntmps28
    go_wp2_with (first
      | (go_at_call 38; refine hf.mono ?_; rintro e w2 ⟨rfl, rfl⟩; clear hf)
      | (at_builtin; refine wpList_append_at _ rfl _ _ 30 30 rfl w.heap.size 5 i0 (.int .u8 0) 1 1 Try.underlying30 hi0 hz0 hz1 hz2 rfl _ 0 _ rfl hown _ _ _ rfl hsrc m (.inr (by omega)) (Nat.le_refl _) (by unfold maxLen; omega) (by simp) ?_; intro vb wb hOb hgb hat; clear hown hsrc; rw [Nat.zero_add, List.nil_append] at hOb; obtain ⟨q, cap2, rfl, l1, l2, l3, l4, ⟨u, l5⟩, l6, HZ⟩ := HF.out vb wb hOb (hal.grown hgb (by simp) (fun k hk => by have : w.heap.size = k := Option.some.inj hk; omega)); have HZ := hideD HZ; unfold xrB at l4 l5 l6; clear hOb hgb hat)
      | fail)
    go_ret
    exact ⟨rfl, HZ.out⟩
end Go.Proofs.Ytibmbbiipffooaa
