import Derived.Test.YtibmbbiipffooaaXfc05
import Derived.Deep.RegionLaw
import Derived.Deep.Cut

/- The document's disk: Append. -/
namespace Go.Proofs.Ytibmbbiipffooaa
open Go.RowKit Go.Lib Go.Maps
set_option linter.unusedSimpArgs false
set_option linter.unusedVariables false

theorem qapp_any {w : World} {Y : Nat} {G : Nat → Prop} {d : Dk} {n : Int} {v : Value} {bs : List Int} (h0 : QD w Y G d) (hfu : d.fuse ≤ 9223372036854775807) (hro : 0 ≤ d.room ∧ d.room ≤ 9223372036854775807)
    (hl : d.L.length ≤ 100000) (hu : usM d.L ≤ 1000000) (hb : bs.length ≤ 1000000) (hv : ∀ w1, Kf G w w1 → Rd w1 v bs) :
    Calls Try.prog 18 #[.pointer (some ⟨Y, 0, none⟩), .int .i64 n, v] w fun e w' => e = .returned (.int .i64 (appD d n bs).2) ∧ QD w' Y (nF G w) (appD d n bs).1 ∧ Kf G w w' := by
  by_cases hd : d.dead = true
  · exact qapp_off h0 hfu hro hu hb (hv w (Kf.refl G w)) (.inl hd)
  by_cases hn : n < 0
  · exact qapp_off h0 hfu hro hu hb (hv w (Kf.refl G w)) (.inr (.inl hn))
  by_cases hr : (bs.length : Int) > d.room - (usM d.L : Int)
  · exact qapp_off h0 hfu hro hu hb (hv w (Kf.refl G w)) (.inr (.inr (.inl hr)))
  by_cases hz : d.fuse = 0
  · exact qapp_off h0 hfu hro hu hb (hv w (Kf.refl G w)) (.inr (.inr (.inr hz)))
  have hd : d.dead = false := by simpa using hd
  obtain ⟨Lv, E, h⟩ := h0
  cases hq : lk n E with
  | some s => exact qapp_hit h hfu hro hl hu hb hv hd hn hr hz hq
  | none =>
    obtain ⟨J, j0, j1, j2⟩ := ins_at h.2.2.1.r hq
    rcases h.2.2.1.o.2 with ⟨e1, e2⟩ | ⟨g, cap, cur, e, _⟩
    · exact qapp_nil h hfu hro hl hu hb hv hd hn hr hz hq j0 j1 j2 e1 e2
    · rcases Nat.lt_or_ge J E.length with hlt | hge
      · exact qapp_mid h hfu hro hl hu hb hv hd hn hr hz hq j0 j1 j2 (by omega) hlt
      · exact qapp_end h hfu hro hl hu hb hv hd hn hr hz hq j0 j1 j2 ⟨g, cap, e⟩ (by omega)

theorem crL_ris {kp : Nat → Int} : ∀ {l : List (Int × Sm)} {i : Nat}, Ris l → Ris (crL kp i l)
  | [], _, _ => List.Pairwise.nil
  | x :: r, i, h => by
    obtain ⟨h1, h2⟩ := List.pairwise_cons.1 h
    rw [crL_cons]
    split
    · exact crL_ris h2
    · refine List.pairwise_cons.2 ⟨fun a ha => ?_, crL_ris h2⟩
      obtain ⟨y, hy, e⟩ := crL_mem ha
      rw [e]
      exact h1 y hy
/-- One segment more of a crash. -/
theorem crL_step {kp : Nat → Int} {L : List (Int × Sm)} {j : Nat} (hj : j < L.length) : crL kp 0 (L.take (j + 1)) = crL kp 0 (L.take j) ++ if kpN (L[j]).2 (kp j) = 0 then [] else [((L[j]).1, ((L[j]).2.1.take (kpN (L[j]).2 (kp j)), kpN (L[j]).2 (kp j)))] := by
  rw [List.take_succ_eq_append_getElem hj, crL_app, List.length_take, Nat.zero_add, Nat.min_eq_left (Nat.le_of_lt hj), crL_cons]
  rfl
theorem mmE_app (a b : List (Int × Sv)) : mmE (a ++ b) = mmE a ++ mmE b := by simp [mmE]
/-- What is kept so far is less than the segment that comes. -/
theorem crL_less {kp : Nat → Int} {L : List (Int × Sm)} (h : Ris L) {j : Nat} (hj : j < L.length) {E : List (Int × Sv)} (hE : mmE E = crL kp 0 (L.take j)) : ∀ a ∈ E, a.1 < (L[j]).1 := fun a ha => by
  have h1 : (a.1, a.2.2) ∈ mmE E := by
    unfold mmE
    exact List.mem_map.2 ⟨a, ha, rfl⟩
  rw [hE] at h1
  obtain ⟨y, hy, e⟩ := crL_mem h1
  have := (ris_split h hj).1 y hy
  simp only at e
  omega
/-- A segment appended to a row of them. -/
theorem QR.push {w w' : World} {Y : Nat} {H : Nat → Prop} {Lv v' vb : Value} {E : List (Int × Sv)} {n : Int} {bs : List Int} {k : Nat} (h : QR w Y H Lv E) (hY : Y < w.heap.size) (hr : ∀ a ∈ E, a.1 < n) (hO : w'.ownsRow 0 56 3 v' (E.length + 1) (celE E ++ celE [(n, vb, bs, k)]))
    (hg : w.grownBy w' Lv.ownBlock) (ha : v'.ownBlock = Lv.ownBlock ∨ v'.ownBlock = some w.heap.size) (hN : H w.heap.size) (hb : Own w 0 5 vb bs) (hbf : ∀ q, vb.ownBlock = some q → H q ∧ q ≠ Y ∧ Lv.ownBlock ≠ some q) : QR w' Y H v' (E ++ [(n, vb, bs, k)]) := by
  have hs : ∀ x ∈ E ++ [(n, vb, bs, k)], Own w 0 5 x.2.1 x.2.2.1 ∧ ∀ q, x.2.1.ownBlock = some q → H q ∧ q ≠ Y ∧ Lv.ownBlock ≠ some q := fun x hx => by
    rcases List.mem_append.1 hx with hx | hx
    · exact h.s x hx
    · obtain rfl := List.mem_singleton.1 hx
      exact ⟨hb, hbf⟩
  refine ⟨?_, ?_, fun q hq => ?_, fun x hx => ?_⟩
  · refine List.pairwise_append.2 ⟨h.r, List.pairwise_singleton _ _, fun a ha b hb => ?_⟩
    obtain rfl := List.mem_singleton.1 hb
    exact hr a ha
  · rw [celE_app, List.length_append]
    exact hO
  · rcases ha with e | e
    · rw [e] at hq
      exact h.oo q hq
    · rw [e] at hq
      obtain rfl := Option.some.inj hq
      exact ⟨hN, by omega⟩
  · obtain ⟨h1, h2⟩ := hs x hx
    have hl := fun q hq => (ownsRow_lt h1 q hq).2
    refine ⟨ownD_keep h1 (fun q hq => hg.block q (hl q hq) (fun e => (h2 q hq).2.2 e.symm)), fun q hq => ⟨(h2 q hq).1, (h2 q hq).2.1, fun e => ?_⟩⟩
    rcases ha with e2 | e2
    · exact (h2 q hq).2.2 (by rw [← e2, e])
    · rw [e2] at e
      have := Option.some.inj e
      have := hl q hq
      omega
/-- What a crash leaves behind its loop. -/
theorem crash_end {w wr : World} {Y : Nat} {G : Nat → Prop} {t Lv : Value} {E : List (Int × Sv)} {r f : Int} {dd : Bool} (hG : G Y) (hY : Y < w.heap.size) (hb : Below w.heap.size w wr) (h : QR wr Y (fun q => w.heap.size ≤ q) t E) (hB : Bn w Y [Lv, .int .i64 r, .int .i64 f, .bool dd]) :
    QD (((wr.setCell ⟨Y, 0, none⟩ t).setCell ⟨Y, 3, none⟩ (.bool false)).setCell ⟨Y, 2, none⟩ (.int .i64 (-1))) Y (nF G w) ⟨mmE E, r, -1, false⟩ ∧ Kf G w (((wr.setCell ⟨Y, 0, none⟩ t).setCell ⟨Y, 3, none⟩ (.bool false)).setCell ⟨Y, 2, none⟩ (.int .i64 (-1))) := by
  refine ⟨⟨t, E, .inl hG, rfl, (((h.setY _).setY _).setY _).keep (fun _ _ _ _ => rfl) (fun _ _ h => .inr h), ?_⟩, (((Kf.of hb (Nat.le_refl _)).set hG _).set hG _).set hG _⟩
  exact (((hB.on hb).set (i := 0) (by simp) t).set (i := 3) (by simp) (.bool false)).set (i := 2) (by simp) (.int .i64 (-1))
end Go.Proofs.Ytibmbbiipffooaa

/- The document's disk: Crash. -/
namespace Go.Proofs.Ytibmbbiipffooaa
open Go.RowKit Go.Lib Go.Maps
set_option linter.unusedSimpArgs false
set_option linter.unusedVariables false
attribute [local go_sem ↓] Go.wp_at_zero Go.wp_at_succ

set_option maxRecDepth 100000 in
set_option maxHeartbeats 8000000 in
theorem qcrash_any {w : World} {Y : Nat} {G : Nat → Prop} {d : Dk} {ls : List Int} {v : Value} (h0 : QD w Y G d) (hw : ∀ x ∈ d.L, x.2.2 ≤ x.2.1.length) (hu : usM d.L ≤ 1000000) (hl : d.L.length ≤ 100000) (hll : ls.length ≤ 100000)
    (hv : ∀ w1, Kf G w w1 → RdI w1 ls v) :
    Calls Try.prog 26 #[.pointer (some ⟨Y, 0, none⟩), v] w fun e w' => e = .returned (.tuple #[]) ∧ QD w' Y (nF G w) (crD d ls) ∧ Kf G w w' := by
  obtain ⟨Lv, E, h⟩ := h0
  obtain ⟨g1, g2, g3, g4⟩ := id h
  have hYl := g4.lt
  obtain ⟨va, vc, rfl, hvl, hvm⟩ := (hv w (Kf.refl G w)).form
  obtain ⟨a, cap, rfl, hlc, hcm⟩ := g3.form
  have c0 := (g4 0 _ rfl).1
  obtain ⟨n, hn⟩ : ∃ n, E.length = n := ⟨_, rfl⟩
  obtain ⟨m, hm⟩ : ∃ n, ls.length = n := ⟨_, rfl⟩
  have hlE : E.length = d.L.length := by rw [← g2]; simp [mmE]
  have HR := hideD (show Ris d.L by rw [← g2]; exact ris_mmE g3.r)
  have HLE := hideD hlE
  rw [hn] at hlE hlc c0
  rw [hm] at hvl hll ⊢
  have HN := hideD hn
  have HM := hideD hm
  have HV := hideD hv
  have HW := hideD hw
  have HQ := hideD g3
  have HL := hideD g2
  have HB := hideD g4
  have hnl : n ≤ 100000 := by omega
  unfold maxLen at hcm hvm
  obtain ⟨D, hD⟩ : ∃ D, crD d ls = D := ⟨_, rfl⟩
  rw [hD]
  have HD := hideD hD
  obtain ⟨i0, hi0, hz0, hz1, hz2⟩ := seg_inf
  obtain ⟨j0, hj0, y0, y1, y2⟩ := u8_inf
  clear hD h g2 g3 g4 hn hm hv hw hlE
  go_enter Try.func26, Try.ntmps26
  go_wp2
  go_loopw [4, 14] (fun t ix wr => ∃ (j : Nat) (E' : List (Int × Sv)), j ≤ n ∧ ix = .int .i64 (j : Int) ∧ Hid (QR wr Y (fun q => w.heap.size ≤ q) t E') ∧ Hid (mmE E' = crL (kpA ls) 0 (d.L.take j)) ∧ Hid (Below w.heap.size w wr)) (fun _ ix _ => n - (RowKit.intOf ix).toNat)
  case atStart => exact ⟨0, [], Nat.zero_le _, rfl, ⟨List.Pairwise.nil, World.ownsRow_nil _ _ _ _, fun g hg => by simp [Value.ownBlock] at hg, fun x hx => absurd hx (by simp)⟩, hideD (show mmE [] = crL (kpA ls) 0 (d.L.take 0) from by simp [mmE, crL]), Below.refl _ _⟩
  case round =>
    obtain ⟨j, E', hj, rfl, HQj, HEj, HBj⟩ := hrel
    have hszr := HBj.out.size
    have C0 := (HBj.out.cell (p := ⟨Y, 0, none⟩) (by show Y < _; omega)).trans c0
    by_cases hlt : j < n
    · have hjl : j < E.length := by rw [HN.out]; exact hlt
      have hdl : j < d.L.length := by rw [← HLE.out]; exact hjl
      obtain ⟨g, cap', e, _, _, hgl, x0, x1, x2⟩ := QR.at HQ.out hjl
      simp only [Value.slice.injEq] at e
      have ha := e.1
      clear e
      subst ha
      obtain ⟨ho, hof⟩ := HQ.out.s _ (List.getElem_mem hjl)
      have hdj : d.L[j] = ((E[j]).1, (E[j]).2.2) := by simp only [← HL.out]; simp [mmE]
      obtain ⟨x, hx⟩ : ∃ x, E[j] = x := ⟨_, rfl⟩
      rw [hx] at x0 x1 x2 ho hof hdj
      obtain ⟨nn, sv, sb, sn⟩ := x
      simp only at x0 x1 x2 ho hof hdj
      obtain ⟨sa, sc, rfl, hsl, hsm⟩ := slice_form ho
      have hwj := HW.out _ (List.getElem_mem hdl)
      rw [hdj] at hwj
      simp only at hwj
      have X0 := (HBj.out.cell (p := ⟨g, j * 3, none⟩) hgl).trans x0
      have X1 := (HBj.out.cell (p := ⟨g, j * 3 + 1, none⟩) hgl).trans x1
      have X2 := (HBj.out.cell (p := ⟨g, j * 3 + 2, none⟩) hgl).trans x2
      have HDJ := hideD hdj
      have HO := hideD ho
      have HX := hideD hx
      have i1 : (j : Int) < (n : Int) := by omega
      have i2 : (0 : Int) ≤ (j : Int) := by omega
      clear x0 x1 x2 ho hof hdj hx
      have hal : Below wr.heap.size wr (wr.alloc (.cells #[.int .i64 nn, .slice sa sb.length sc, .int .i64 (sn : Int)] 56)) := (Below.refl _ _).alloc (Nat.le_refl _) _
      have hB8 : Bn (wr.alloc (.cells #[.int .i64 nn, .slice sa sb.length sc, .int .i64 (sn : Int)] 56)) wr.heap.size [.int .i64 nn, .slice sa sb.length sc, .int .i64 (sn : Int)] := Bn.new wr [.int .i64 nn, .slice sa sb.length sc, .int .i64 (sn : Int)] _ _ rfl
      obtain ⟨Z, hZ⟩ : ∃ Z, wr.heap.size = Z := ⟨_, rfl⟩
      have hszw : (wr.alloc (.cells #[.int .i64 nn, .slice sa sb.length sc, .int .i64 (sn : Int)] 56)).heap.size = wr.heap.size + 1 := by simp
      have hr := HV.out (wr.alloc (.cells #[.int .i64 nn, .slice sa sb.length sc, .int .i64 (sn : Int)] 56)) ((Kf.of HBj.out (Nat.le_refl _)).alloc _)
      rw [hZ] at hal hB8 hszw hszr
      go_upto_region 6 with fail
      generalize wr.alloc (.cells #[.int .i64 nn, .slice sa sb.length sc, .int .i64 (sn : Int)] 56) = w2 at *
      have HZ := hideD hZ
      clear hZ
      obtain ⟨t0, s0⟩ := hB8 0 _ rfl
      obtain ⟨t1, s1⟩ := hB8 1 _ rfl
      obtain ⟨t2, s2⟩ := hB8 2 _ rfl
      clear X0 X1 X2 C0 s0 s1 s2
      obtain ⟨T, hT⟩ : ∃ T, kpA ls j = T := ⟨_, rfl⟩
      obtain ⟨M, hM⟩ : ∃ M : Int, (if T < 0 then 0 else T) = M := ⟨_, rfl⟩
      obtain ⟨N, hN⟩ : ∃ N : Int, (if (sb.length : Int) - (sn : Int) < M then (sb.length : Int) - (sn : Int) else M) = N := ⟨_, rfl⟩
      obtain ⟨K, hK⟩ : ∃ K : Nat, kpN (sb, sn) T = K := ⟨_, rfl⟩
      have hNb : 0 ≤ N ∧ N ≤ (sb.length : Int) - (sn : Int) ∧ (sn : Int) + N = (K : Int) := by
        unfold kpN at hK
        simp only at hK
        have hM2 : M = max T 0 := by rw [← hM]; split <;> omega
        have hN2 : N = min M ((sb.length : Int) - (sn : Int)) := by rw [← hN]; split <;> omega
        omega
      obtain ⟨n1, n2, n3⟩ := hNb
      have hKl : K ≤ sb.length := by omega
      have hsbl : sb.length ≤ 1000000 := by
        have h1 := usM_step hdl
        have h2 := usM_take_le d.L (j + 1)
        rw [HDJ.out] at h1
        simp only at h1
        omega
      have w1e : wrap64 ((sb.length : Int) - (sn : Int)) = (sb.length : Int) - (sn : Int) := by unfold wrap64; omega
      have w2e : wrap64 ((sn : Int) + N) = (K : Int) := by rw [n3]; unfold wrap64; omega
      have HKK := hideD hK
      have HT := hideD hT
      clear hK n3
      by_cases hm0 : m = 0
      · have i3 : ¬ (m : Int) > 0 := by omega
        have hT0 : T = 0 := by rw [← hT]; exact if_pos (by rw [HM.out]; exact hm0)
        obtain rfl : K = sn := by
          have := HKK.out
          unfold kpN at this
          simp only at this
          omega
        clear hM hN w1e w2e n1 n2 hT hT0 hm0 hr
        have HW2 := hideD (show wrap64 (K : Int) = (K : Int) by unfold wrap64; omega)
        go_upto_region 9 with fail
        have hsz3 : Z < w2.heap.size := by omega
        clear hszw
        have hal3 := hal
        have hB3 := hB8
        generalize w2 = w3 at hal3 hB3 hsz3 ⊢
        clear t0 t1 t2
        obtain ⟨t0, s0⟩ := hB3 0 _ rfl
        obtain ⟨t1, s1⟩ := hB3 1 _ rfl
        have hQ3 : QR w3 Y (fun q => w.heap.size ≤ q) u4 E' := HQj.out.on (by rw [HZ.out]; exact hal3)
        have hb3 : Below w.heap.size w w3 := HBj.out.trans (by
          have := hal3
          exact this.mono hszr)
        clear s0 s1 hal3
        by_cases hK0 : K = 0
        · have k1 : (K : Int) = 0 := by omega
          have HQ3 := hideD hQ3
          have HB3 := hideD hb3
          clear hQ3 hb3 hB3 t0 t1
          go_wp2
          go_roundw
          case rel => exact ⟨j + 1, E', hlt, by go_num, HQ3, by
            show mmE E' = _
            rw [crL_step hdl, HDJ.out, HT.out, HKK.out, if_pos hK0, List.append_nil]
            exact HEj.out, HB3⟩
          case measure => simp [RowKit.intOf]; omega
        · have k1 : ¬ (K : Int) = 0 := by omega
          obtain ⟨b1, rfl⟩ : ∃ b1, sa = some ⟨b1, 0, none⟩ := by
            rcases HO.out.2 with ⟨e, _⟩ | ⟨b1, c1, u1, e, _⟩
            · simp only [Value.slice.injEq] at e
              omega
            · simp only [Value.slice.injEq] at e
              exact ⟨b1, e.1⟩
          have hbl1 := (ownsRow_lt HO.out b1 rfl).2
          have HS1 := hideD (show ∀ W, Below w.heap.size w W → Src Try.prog 1 30 (.slice (some ⟨b1, 0, none⟩) K sc) K ((sb.take K).map (Value.int .u8)) W from fun W hb => by
            refine Src.ofSlice _ Try.underlying30 _ K sc _ (by simp; omega) (fun q u hq => ?_) (ints_oneCell _ _)
            have hc := World.ownsRow.cells HO.out (g := b1) rfl q u (by
              rw [List.map_take, List.getElem?_take] at hq
              split at hq
              · exact hq
              · cases hq)
            rw [add_plain, Nat.zero_add] at hc ⊢
            exact (hb.cell (p := ⟨b1, q, none⟩) hbl1).trans hc)
          have hEl : E'.length ≤ 100000 := by
            have h1 := (crL_us (kp := kpA ls) (l := d.L.take j) 0 (fun x hx => HW.out x (List.mem_of_mem_take hx))).2
            rw [← HEj.out, List.length_take] at h1
            simp only [mmE, List.length_map] at h1
            omega
          have k2 : (0 : Int) ≤ (K : Int) := by omega
          have k3 : (K : Int) ≤ (sc : Int) := by omega
          have k4 : ¬ (K : Int) > (sc : Int) := by omega
          have hal : Below w3.heap.size w3 (w3.alloc (.cells #[] 5)).drew := ((Below.refl _ _).alloc (Nat.le_refl _) _).drew
          have hown : (w3.alloc (.cells #[] 5)).drew.ownsRow w3.heap.size 5 1 (.slice (some ⟨w3.heap.size, 0, none⟩) 0 0) 0 [] := World.ownsRow_made w3 #[] 0 (Nat.le_refl _) (Nat.zero_le _) rfl
          have hbA : Below w.heap.size w (w3.alloc (.cells #[] 5)).drew := hb3.trans (hal.mono hb3.size)
          have T0 : (w3.alloc (.cells #[] 5)).drew.cell? ⟨Z, 0, none⟩ = some (.int .i64 nn) := (hal.cell (p := ⟨Z, 0, none⟩) (by show Z < _; omega)).trans t0
          have T1 : (w3.alloc (.cells #[] 5)).drew.cell? ⟨Z, 1, none⟩ = some (.slice (some ⟨b1, 0, none⟩) sb.length sc) := (hal.cell (p := ⟨Z, 1, none⟩) (by show Z < _; omega)).trans t1
          have hszA : w3.heap.size ≤ (w3.alloc (.cells #[] 5)).drew.heap.size := hal.size
          have hless := crL_less (kp := kpA ls) HR.out hdl HEj.out
          rw [HDJ.out] at hless
          have hYZ : Y < Z := by omega
          have HPU := hideD (show ∀ (va1 : Value) (wa : World), wa.ownsRow w3.heap.size 5 1 va1 K ((sb.take K).map (Value.int .u8)) → Below w3.heap.size w3 wa →
              (wa.alloc (.cells #[.int .i64 nn, va1, .int .i64 (K : Int)] 56)).ownsRow 0 56 3 u4 E'.length (celE E') ∧ Src Try.prog 3 49 (.slice (some ⟨wa.heap.size, 0, none⟩) 1 1) 1 (celE [(nn, va1, sb.take K, K)]) (wa.alloc (.cells #[.int .i64 nn, va1, .int .i64 (K : Int)] 56)) ∧
              ∀ (vt : Value) (wt : World), wt.ownsRow 0 56 3 vt (E'.length + 1) (celE E' ++ celE [(nn, va1, sb.take K, K)]) → (wa.alloc (.cells #[.int .i64 nn, va1, .int .i64 (K : Int)] 56)).grownBy wt u4.ownBlock → (vt.ownBlock = u4.ownBlock ∨ vt.ownBlock = some (wa.alloc (.cells #[.int .i64 nn, va1, .int .i64 (K : Int)] 56)).heap.size) →
                QR wt Y (fun q => w.heap.size ≤ q) vt (E' ++ [(nn, va1, sb.take K, K)]) ∧ Below w.heap.size w wt from fun va1 wa hOa hba => by
            have hsa := hba.size
            have hlo := World.ownsRow.lt hOa
            have hbB : Below w3.heap.size w3 (wa.alloc (.cells #[.int .i64 nn, va1, .int .i64 (K : Int)] 56)) := hba.alloc hba.size _
            have hsB : (wa.alloc (.cells #[.int .i64 nn, va1, .int .i64 (K : Int)] 56)).heap.size = wa.heap.size + 1 := by simp
            have hQB := hQ3.on hbB
            have hu4 := fun q hq => (ownsRow_lt hQ3.o q hq).2
            refine ⟨hQB.o, ?_, fun vt wt hO hg ha => ⟨hQB.push (by omega) hless hO hg ha (by show w.heap.size ≤ _; omega) ?_ (fun q hq => ?_), ?_⟩⟩
            · refine Src.ofSlice _ Try.underlying49 _ 1 1 _ rfl (fun q u hq => ?_) (fun u hu => ?_)
              · rw [add_plain, Nat.zero_add]
                have hB : Bn (wa.alloc (.cells #[.int .i64 nn, va1, .int .i64 (K : Int)] 56)) wa.heap.size [.int .i64 nn, va1, .int .i64 (K : Int)] := Bn.new wa [.int .i64 nn, va1, .int .i64 (K : Int)] _ _ rfl
                exact (hB q u hq).1
              · have e : celE [(nn, va1, sb.take K, K)] = [.int .i64 nn, va1, .int .i64 (K : Int)] := rfl
                rw [e] at hu
                simp only [List.mem_cons, List.not_mem_nil, or_false] at hu
                obtain ⟨a1, c1, e1, _, _⟩ := ownf_form hOa
                rcases hu with rfl | rfl | rfl
                · rfl
                · rw [e1]; rfl
                · rfl
            · unfold Own
              rw [List.length_take, Nat.min_eq_left hKl]
              exact ownsRow_keep ⟨hOa.1, hOa.2.imp id (fun ⟨a, b, c, e1, e2, e3⟩ => ⟨a, b, c, e1, Nat.zero_le _, e3⟩)⟩ (fun q hq => ((Below.refl wa.heap.size wa).alloc (Nat.le_refl _) _).block q (hlo q hq).2)
            · have h1 := (hlo q hq).1
              have h3 := hb3.size
              exact ⟨by show w.heap.size ≤ q; omega, by omega, fun e => by have := hu4 q e; omega⟩
            · have hbw : Below w.heap.size w (wa.alloc (.cells #[.int .i64 nn, va1, .int .i64 (K : Int)] 56)) := hb3.trans (hbB.mono hb3.size)
              exact hbw.grown hg hbw.size (fun q hq => (hQ3.oo q hq).1))
          have hga1 : ∀ (wa : World), (w3.alloc (.cells #[] 5)).drew.grownBy wa (Value.slice (some ⟨w3.heap.size, 0, none⟩) 0 0).ownBlock → Below w3.heap.size w3 wa := fun wa hg => hal.grown hg (by show w3.heap.size ≤ (w3.alloc _).heap.size; simp) (fun k hk => by have : w3.heap.size = k := Option.some.inj hk; omega)
          clear hQ3 hb3 hB3 hless
          go_upto_region 10 with fail
          go_region_law (first
            | (refine step_append_at _ (by rfl) (.tmp 51) (.tmp 55) 30 30 (by rfl) w3.heap.size 5 j0 (.int .u8 0) 1 1 Try.underlying30 hj0 y0 y1 y2 rfl (.slice (some ⟨w3.heap.size, 0, none⟩) 0 0) 0 [] (by rfl) hown _ K ((sb.take K).map (Value.int .u8)) (by rfl) (HS1.out _ hbA) K (.inr (by omega)) (Nat.le_refl _) (by unfold maxLen; omega) hszA ?_; intro va1 wa hOa hga hata; rw [Nat.zero_add, List.nil_append] at hOa; have hba := hga1 wa hga; have U0 := (hba.cell (p := ⟨Z, 0, none⟩) (by show Z < _; omega)).trans t0; obtain ⟨pu1, pu2, pu3⟩ := HPU.out va1 wa hOa hba; have HPU3 := hideD pu3; clear pu3; obtain ⟨a1, ac1, rfl, hl1, hm1⟩ := ownf_form hOa)
            | (refine step_append_at _ (by rfl) (.tmp 48) (.tmp 59) 49 49 (by rfl) 0 56 i0 (.agg #[.int .i64 0, .slice none 0 0, .int .i64 0]) 3 40 Try.underlying49 hi0 hz0 hz1 hz2 rfl u4 E'.length (celE E') (by rfl) pu1 _ 1 (celE [(nn, .slice a1 K ac1, sb.take K, K)]) (by rfl) pu2 1 (.inr (by omega)) (Nat.le_refl _) (by unfold maxLen; omega) (Nat.zero_le _) ?_; intro vt wt hOt hgt hatt; have HEND := hideD (HPU3.out vt wt hOt hgt hatt))
            | fail)
          all_goals
            go_wp2
            go_roundw
            case rel => exact ⟨j + 1, E' ++ [(nn, .slice a1 K ac1, sb.take K, K)], hlt, by go_num, hideD HEND.out.1, by
              show mmE (E' ++ _) = _
              rw [crL_step hdl, HDJ.out, HT.out, HKK.out, if_neg hK0, mmE_app, HEj.out]
              rfl, hideD HEND.out.2⟩
            case measure => simp [RowKit.intOf]; omega
      · have i3 : (m : Int) > 0 := by omega
        have hml : ls.length ≠ 0 := by rw [HM.out]; exact hm0
        have hkA := kpA_in ls j hml
        rw [HM.out] at hkA
        obtain ⟨p, hp, hpl⟩ : ∃ p : Nat, j % m = p ∧ p < m := ⟨_, rfl, Nat.mod_lt _ (by omega)⟩
        rw [hp] at hkA
        obtain ⟨a, cap1, e, h1, h2, hcell⟩ := hr
        rw [HM.out] at e
        simp only [Value.slice.injEq] at e
        have e1 := e.1
        clear e
        obtain ⟨b, off, cs, ha, _, hbl, _, hcs, hcl⟩ := hcell p (by rw [HM.out]; exact hpl)
        have hva : va = some ⟨b, off, none⟩ := e1.trans ha
        clear ha e1 hcell
        subst hva
        have cp := hcl 0 (.int .i64 (kpA ls j)) (by rw [hcs, hkA]; simp [List.getD, show p < ls.length by rw [HM.out]; exact hpl])
        rw [Nat.mul_one, Nat.add_zero] at cp
        rw [hT] at cp
        have q0 : ¬ (m : Int) = 0 := by omega
        have j1 : ((j : Int) % (m : Int)) = (p : Int) := by rw [← hp]; exact (Int.natCast_emod j m).symm
        have j2 : ((j : Int).tmod (m : Int)) = (p : Int) := by rw [← hp]; exact (Int.ofNat_tmod j m).symm
        have j3 : (0 : Int) ≤ (p : Int) := by omega
        have j4 : (p : Int) < (m : Int) := by omega
        clear hkA hcl hcs hT hp h1 h2 hbl hml
        go_upto_region 7 with fail
        go_quiet (fail)
        go_upto_region 9 with fail
        have hKe : (sn : Int) + min (max T 0) ((sb.length : Int) - (sn : Int)) = (K : Int) := by
          have := HKK.out
          unfold kpN at this
          simp only at this
          omega
        simp only [hKe]
        clear cp w1e w2e hM hN hKe
        have hal3 : Below Z wr (w2.drewN nq) := ⟨hal.os, hal.tape, hal.output, by simpa using hal.size, hal.block⟩
        have hB3 : Bn (w2.drewN nq) Z [.int .i64 nn, .slice sa sb.length sc, .int .i64 (sn : Int)] := hB8.blk rfl
        have hsz3 : Z < (w2.drewN nq).heap.size := by show Z < w2.heap.size; omega
        generalize w2.drewN nq = w3 at hal3 hB3 hsz3 ⊢
        clear hal hB8 hszw t0 t1 t2
        obtain ⟨t0, s0⟩ := hB3 0 _ rfl
        obtain ⟨t1, s1⟩ := hB3 1 _ rfl
        have hQ3 : QR w3 Y (fun q => w.heap.size ≤ q) u4 E' := HQj.out.on (by rw [HZ.out]; exact hal3)
        have hb3 : Below w.heap.size w w3 := HBj.out.trans (by
          have := hal3
          exact this.mono hszr)
        clear s0 s1 hal3
        by_cases hK0 : K = 0
        · have k1 : (K : Int) = 0 := by omega
          have HQ3 := hideD hQ3
          have HB3 := hideD hb3
          clear hQ3 hb3 hB3 t0 t1
          go_wp2
          go_roundw
          case rel => exact ⟨j + 1, E', hlt, by go_num, HQ3, by
            show mmE E' = _
            rw [crL_step hdl, HDJ.out, HT.out, HKK.out, if_pos hK0, List.append_nil]
            exact HEj.out, HB3⟩
          case measure => simp [RowKit.intOf]; omega
        · have k1 : ¬ (K : Int) = 0 := by omega
          obtain ⟨b1, rfl⟩ : ∃ b1, sa = some ⟨b1, 0, none⟩ := by
            rcases HO.out.2 with ⟨e, _⟩ | ⟨b1, c1, u1, e, _⟩
            · simp only [Value.slice.injEq] at e
              omega
            · simp only [Value.slice.injEq] at e
              exact ⟨b1, e.1⟩
          have hbl1 := (ownsRow_lt HO.out b1 rfl).2
          have HS1 := hideD (show ∀ W, Below w.heap.size w W → Src Try.prog 1 30 (.slice (some ⟨b1, 0, none⟩) K sc) K ((sb.take K).map (Value.int .u8)) W from fun W hb => by
            refine Src.ofSlice _ Try.underlying30 _ K sc _ (by simp; omega) (fun q u hq => ?_) (ints_oneCell _ _)
            have hc := World.ownsRow.cells HO.out (g := b1) rfl q u (by
              rw [List.map_take, List.getElem?_take] at hq
              split at hq
              · exact hq
              · cases hq)
            rw [add_plain, Nat.zero_add] at hc ⊢
            exact (hb.cell (p := ⟨b1, q, none⟩) hbl1).trans hc)
          have hEl : E'.length ≤ 100000 := by
            have h1 := (crL_us (kp := kpA ls) (l := d.L.take j) 0 (fun x hx => HW.out x (List.mem_of_mem_take hx))).2
            rw [← HEj.out, List.length_take] at h1
            simp only [mmE, List.length_map] at h1
            omega
          have k2 : (0 : Int) ≤ (K : Int) := by omega
          have k3 : (K : Int) ≤ (sc : Int) := by omega
          have k4 : ¬ (K : Int) > (sc : Int) := by omega
          have hal : Below w3.heap.size w3 (w3.alloc (.cells #[] 5)).drew := ((Below.refl _ _).alloc (Nat.le_refl _) _).drew
          have hown : (w3.alloc (.cells #[] 5)).drew.ownsRow w3.heap.size 5 1 (.slice (some ⟨w3.heap.size, 0, none⟩) 0 0) 0 [] := World.ownsRow_made w3 #[] 0 (Nat.le_refl _) (Nat.zero_le _) rfl
          have hbA : Below w.heap.size w (w3.alloc (.cells #[] 5)).drew := hb3.trans (hal.mono hb3.size)
          have T0 : (w3.alloc (.cells #[] 5)).drew.cell? ⟨Z, 0, none⟩ = some (.int .i64 nn) := (hal.cell (p := ⟨Z, 0, none⟩) (by show Z < _; omega)).trans t0
          have T1 : (w3.alloc (.cells #[] 5)).drew.cell? ⟨Z, 1, none⟩ = some (.slice (some ⟨b1, 0, none⟩) sb.length sc) := (hal.cell (p := ⟨Z, 1, none⟩) (by show Z < _; omega)).trans t1
          have hszA : w3.heap.size ≤ (w3.alloc (.cells #[] 5)).drew.heap.size := hal.size
          have hless := crL_less (kp := kpA ls) HR.out hdl HEj.out
          rw [HDJ.out] at hless
          have hYZ : Y < Z := by omega
          have HPU := hideD (show ∀ (va1 : Value) (wa : World), wa.ownsRow w3.heap.size 5 1 va1 K ((sb.take K).map (Value.int .u8)) → Below w3.heap.size w3 wa →
              (wa.alloc (.cells #[.int .i64 nn, va1, .int .i64 (K : Int)] 56)).ownsRow 0 56 3 u4 E'.length (celE E') ∧ Src Try.prog 3 49 (.slice (some ⟨wa.heap.size, 0, none⟩) 1 1) 1 (celE [(nn, va1, sb.take K, K)]) (wa.alloc (.cells #[.int .i64 nn, va1, .int .i64 (K : Int)] 56)) ∧
              ∀ (vt : Value) (wt : World), wt.ownsRow 0 56 3 vt (E'.length + 1) (celE E' ++ celE [(nn, va1, sb.take K, K)]) → (wa.alloc (.cells #[.int .i64 nn, va1, .int .i64 (K : Int)] 56)).grownBy wt u4.ownBlock → (vt.ownBlock = u4.ownBlock ∨ vt.ownBlock = some (wa.alloc (.cells #[.int .i64 nn, va1, .int .i64 (K : Int)] 56)).heap.size) →
                QR wt Y (fun q => w.heap.size ≤ q) vt (E' ++ [(nn, va1, sb.take K, K)]) ∧ Below w.heap.size w wt from fun va1 wa hOa hba => by
            have hsa := hba.size
            have hlo := World.ownsRow.lt hOa
            have hbB : Below w3.heap.size w3 (wa.alloc (.cells #[.int .i64 nn, va1, .int .i64 (K : Int)] 56)) := hba.alloc hba.size _
            have hsB : (wa.alloc (.cells #[.int .i64 nn, va1, .int .i64 (K : Int)] 56)).heap.size = wa.heap.size + 1 := by simp
            have hQB := hQ3.on hbB
            have hu4 := fun q hq => (ownsRow_lt hQ3.o q hq).2
            refine ⟨hQB.o, ?_, fun vt wt hO hg ha => ⟨hQB.push (by omega) hless hO hg ha (by show w.heap.size ≤ _; omega) ?_ (fun q hq => ?_), ?_⟩⟩
            · refine Src.ofSlice _ Try.underlying49 _ 1 1 _ rfl (fun q u hq => ?_) (fun u hu => ?_)
              · rw [add_plain, Nat.zero_add]
                have hB : Bn (wa.alloc (.cells #[.int .i64 nn, va1, .int .i64 (K : Int)] 56)) wa.heap.size [.int .i64 nn, va1, .int .i64 (K : Int)] := Bn.new wa [.int .i64 nn, va1, .int .i64 (K : Int)] _ _ rfl
                exact (hB q u hq).1
              · have e : celE [(nn, va1, sb.take K, K)] = [.int .i64 nn, va1, .int .i64 (K : Int)] := rfl
                rw [e] at hu
                simp only [List.mem_cons, List.not_mem_nil, or_false] at hu
                obtain ⟨a1, c1, e1, _, _⟩ := ownf_form hOa
                rcases hu with rfl | rfl | rfl
                · rfl
                · rw [e1]; rfl
                · rfl
            · unfold Own
              rw [List.length_take, Nat.min_eq_left hKl]
              exact ownsRow_keep ⟨hOa.1, hOa.2.imp id (fun ⟨a, b, c, e1, e2, e3⟩ => ⟨a, b, c, e1, Nat.zero_le _, e3⟩)⟩ (fun q hq => ((Below.refl wa.heap.size wa).alloc (Nat.le_refl _) _).block q (hlo q hq).2)
            · have h1 := (hlo q hq).1
              have h3 := hb3.size
              exact ⟨by show w.heap.size ≤ q; omega, by omega, fun e => by have := hu4 q e; omega⟩
            · have hbw : Below w.heap.size w (wa.alloc (.cells #[.int .i64 nn, va1, .int .i64 (K : Int)] 56)) := hb3.trans (hbB.mono hb3.size)
              exact hbw.grown hg hbw.size (fun q hq => (hQ3.oo q hq).1))
          have hga1 : ∀ (wa : World), (w3.alloc (.cells #[] 5)).drew.grownBy wa (Value.slice (some ⟨w3.heap.size, 0, none⟩) 0 0).ownBlock → Below w3.heap.size w3 wa := fun wa hg => hal.grown hg (by show w3.heap.size ≤ (w3.alloc _).heap.size; simp) (fun k hk => by have : w3.heap.size = k := Option.some.inj hk; omega)
          clear hQ3 hb3 hB3 hless
          go_upto_region 10 with fail
          go_region_law (first
            | (refine step_append_at _ (by rfl) (.tmp 51) (.tmp 55) 30 30 (by rfl) w3.heap.size 5 j0 (.int .u8 0) 1 1 Try.underlying30 hj0 y0 y1 y2 rfl (.slice (some ⟨w3.heap.size, 0, none⟩) 0 0) 0 [] (by rfl) hown _ K ((sb.take K).map (Value.int .u8)) (by rfl) (HS1.out _ hbA) K (.inr (by omega)) (Nat.le_refl _) (by unfold maxLen; omega) hszA ?_; intro va1 wa hOa hga hata; rw [Nat.zero_add, List.nil_append] at hOa; have hba := hga1 wa hga; have U0 := (hba.cell (p := ⟨Z, 0, none⟩) (by show Z < _; omega)).trans t0; obtain ⟨pu1, pu2, pu3⟩ := HPU.out va1 wa hOa hba; have HPU3 := hideD pu3; clear pu3; obtain ⟨a1, ac1, rfl, hl1, hm1⟩ := ownf_form hOa)
            | (refine step_append_at _ (by rfl) (.tmp 48) (.tmp 59) 49 49 (by rfl) 0 56 i0 (.agg #[.int .i64 0, .slice none 0 0, .int .i64 0]) 3 40 Try.underlying49 hi0 hz0 hz1 hz2 rfl u4 E'.length (celE E') (by rfl) pu1 _ 1 (celE [(nn, .slice a1 K ac1, sb.take K, K)]) (by rfl) pu2 1 (.inr (by omega)) (Nat.le_refl _) (by unfold maxLen; omega) (Nat.zero_le _) ?_; intro vt wt hOt hgt hatt; have HEND := hideD (HPU3.out vt wt hOt hgt hatt))
            | fail)
          all_goals
            go_wp2
            go_roundw
            case rel => exact ⟨j + 1, E' ++ [(nn, .slice a1 K ac1, sb.take K, K)], hlt, by go_num, hideD HEND.out.1, by
              show mmE (E' ++ _) = _
              rw [crL_step hdl, HDJ.out, HT.out, HKK.out, if_neg hK0, mmE_app, HEj.out]
              rfl, hideD HEND.out.2⟩
            case measure => simp [RowKit.intOf]; omega
    · have i1 : ¬ (j : Int) < (n : Int) := by omega
      obtain ⟨ta, tc, rfl, _, _⟩ := HQj.out.form
      have hBn := HB.out.on HBj.out
      obtain ⟨C00, F00⟩ := hBn 0 _ rfl
      obtain ⟨C22, F22⟩ := hBn 2 _ rfl
      obtain ⟨C33, F33⟩ := hBn 3 _ rfl
      have hen := crash_end g1 hYl HBj.out HQj.out HB.out
      have HEN := hideD hen
      clear hen hBn
      go_wp2
      go_end0
      have e : d.L.take j = d.L := List.take_of_length_le (by rw [← HLE.out, HN.out]; omega)
      have h1 := HEj.out
      rw [e] at h1
      refine ⟨rfl, ?_, HEN.out.2⟩
      have h2 := HEN.out.1
      rw [h1] at h2
      rw [← HD.out]
      exact h2
end Go.Proofs.Ytibmbbiipffooaa
