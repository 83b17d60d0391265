import Derived.Test.YtpblcahcpobicaaXmc10
import Derived.Deep.Cut
import Derived.BigRegion
import Derived.Test.YtpblcahcpobicaaXmc11
import Derived.Test.YtpblcahcpobicaaXmc06
import Derived.Test.YtpblcahcpobicaaXmc09
import Derived.Test.YtpblcahcpobicaaXmc05

/- The journal: Open, whatever lies on the disk. -/
namespace Go.Proofs.Ytpblcahcpobicaa
open Go.RowKit Go.Lib Go.Maps
set_option linter.unusedSimpArgs false
set_option linter.unusedVariables false
set_option maxRecDepth 100000
attribute [local go_sem ↓] Go.wp_at_zero Go.wp_at_succ

/-- The disk behind Open, Open's error, and the segments that stay. -/
def opnM (d : Dk) : Dk × Int × List SgT :=
  if rdA d ≠ 0 then (d, rdA d, []) else if wrongB (sgsM d.L) = true then (d, 9, []) else if (tidM d (sgsM d.L)).2.1 ≠ 0 then ((tidM d (sgsM d.L)).1, (tidM d (sgsM d.L)).2.1, []) else ((tidM d (sgsM d.L)).1, 0, (tidM d (sgsM d.L)).2.2)
abbrev RdBsB (B : Nat) (w : World) (L : List (List Int)) (v : Value) : Prop := RdK (fun b => B ≤ b) w 1 (rBy (fun b => B ≤ b) w) L v
def OnOut (w w' : World) (X : Nat) (F : Nat → Prop) (d : Dk) (e : Ending) : Prop := ∃ p rv, e = .returned (.tuple #[p, rv, .int .i64 (opnM d).2.1]) ∧ PD w' X (nF F w) (opnM d).1 ∧ Kf F w w' ∧ ((opnM d).2.1 ≠ 0 → p = .pointer none ∧ rv = .slice none 0 0) ∧
  ((opnM d).2.1 = 0 → ∃ J, p = .pointer (some ⟨J, 0, none⟩) ∧ w.heap.size ≤ J ∧ PD w' X (fun j => nF F w j ∧ j < J) (opnM d).1 ∧ Bn w' J (jC X (opJ (opnM d).2.2)) ∧ RdBsB w.heap.size w' (opR (opnM d).2.2) rv)
theorem ownf_formJ {w : World} {base e k n : Nat} {v : Value} {xs : List Value} (h : w.ownsRow base e k v n xs) : ∃ a cap, v = .slice a n cap ∧ n ≤ cap ∧ cap ≤ maxLen := by
  rcases h.2 with ⟨h1, h2⟩ | ⟨g, cap, cur, h1, _, _, h3, h4, _⟩
  · exact ⟨none, 0, by rw [h1, h2], by omega, by simp [maxLen]⟩
  · exact ⟨_, _, h1, h3, h4⟩
theorem rdCs_bs {w : World} {B : Nat} {v : Value} {cs : List Value} {l : List (List Int)} (h : w.ownsRow B 41 1 v cs.length cs) (hr : RdCs w cs l) : RdBs w l v := by
  obtain ⟨a, c, rfl, h1, h2⟩ := ownf_formJ h
  refine ⟨a, c, by rw [hr.1], by rw [← hr.1]; exact h1, h2, fun i hi => ?_⟩
  rcases h.2 with ⟨e, h0⟩ | ⟨g, cap, cur, e, _, hg, _⟩
  · rw [hr.1] at h0
    omega
  · simp only [Value.slice.injEq] at e
    obtain ⟨rfl, _, rfl⟩ := e
    obtain ⟨ra, rc, e1, hy, hrd⟩ := hr.2 i hi
    have hc := World.ownsRow.cells h (g := g) rfl i _ e1
    rw [add_plain, Nat.zero_add] at hc
    refine ⟨g, 0, [.slice ra (l[i]).length rc], rfl, trivial, (Array.getElem?_eq_some_iff.1 hg).1, rfl, ⟨ra, rc, rfl, fun y hy2 => ⟨trivial, hy y hy2⟩, hrd⟩, fun j u hu => ?_⟩
    · cases j with
      | zero =>
        have e3 : Value.slice ra (l[i]).length rc = u := by simpa using hu
        rw [← e3, Nat.mul_one, Nat.add_zero, Nat.zero_add]
        exact hc
      | succ j => simp at hu
theorem RdBsB.rd {B : Nat} {w : World} {L : List (List Int)} {v : Value} (h : RdBsB B w L v) : RdBs w L v := RdK.stay kp_By h (fun b _ _ => ⟨trivial, rfl⟩)
theorem rdCs_bsB {w : World} {A B : Nat} (hAB : A ≤ B) {v : Value} {cs : List Value} {l : List (List Int)} (h : w.ownsRow B 41 1 v cs.length cs) (hr : RdCsB A w cs l) : RdBsB A w l v := by
  obtain ⟨a, c, rfl, h1, h2⟩ := ownf_formJ h
  refine ⟨a, c, by rw [hr.1], by rw [← hr.1]; exact h1, h2, fun i hi => ?_⟩
  rcases h.2 with ⟨e, h0⟩ | ⟨g, cap, cur, e, hgB, hg, _⟩
  · rw [hr.1] at h0
    omega
  · simp only [Value.slice.injEq] at e
    obtain ⟨rfl, _, rfl⟩ := e
    obtain ⟨ra, rc, e1, hy, hrd⟩ := hr.2 i hi
    have hc := World.ownsRow.cells h (g := g) rfl i _ e1
    rw [add_plain, Nat.zero_add] at hc
    refine ⟨g, 0, [.slice ra (l[i]).length rc], rfl, Nat.le_trans hAB hgB, (Array.getElem?_eq_some_iff.1 hg).1, rfl, ⟨ra, rc, rfl, fun y hy2 => hy y hy2, hrd⟩, fun j u hu => ?_⟩
    · cases j with
      | zero =>
        have e3 : Value.slice ra (l[i]).length rc = u := by simpa using hu
        rw [← e3, Nat.mul_one, Nat.add_zero, Nat.zero_add]
        exact hc
      | succ j => simp at hu
theorem jo_alloc {w4 Wz W : World} {J X n : Nat} {j : Jm} {rv : Value} {cs C : List Value} {T : TypeId} (hBJ : Bn Wz J (jC X j)) (hB : Below J w4 Wz) (hs : J + 1 ≤ Wz.heap.size) (hO : Wz.ownsRow (J + 1) 41 1 rv n cs) (hW : (Wz.alloc (.cells C.toArray T)).drew = W) :
    Bn W J (jC X j) ∧ Below J w4 W ∧ J + 1 ≤ W.heap.size ∧ W.ownsRow (J + 1) 41 1 rv n cs ∧ Bn W Wz.heap.size C := by
  subst hW
  have al : Below Wz.heap.size Wz (Wz.alloc (.cells C.toArray T)) := (Below.refl _ _).alloc (Nat.le_refl _) _
  exact ⟨(hBJ.on al).drew, (hB.trans (al.mono (by omega))).drew, Nat.le_trans hs al.size, (World.ownsRow.alloc hO _).drew, (Bn.new Wz C T _ rfl).drew⟩
theorem jo_next {w4 W wb : World} {J X : Nat} {j : Jm} {rv : Value} {n : Nat} {cs : List Value} (hBJ : Bn W J (jC X j)) (hB : Below J w4 W) (hs : J + 1 ≤ W.heap.size) (hO : W.ownsRow (J + 1) 41 1 rv n cs) (hg : W.grownBy wb rv.ownBlock) :
    Bn wb J (jC X j) ∧ Below J w4 wb ∧ J + 1 ≤ wb.heap.size := by
  refine ⟨hBJ.blk (hg.block J (by omega) (fun e => ?_)), hB.grown hg (by omega) (fun k hk => ?_), Nat.le_trans hs hg.size⟩
  · have := (ownsRow_lt hO J e.symm).1
    omega
  · have := (ownsRow_lt hO k hk).1
    omega
theorem sgs_len (L : List (Int × Sm)) : (sgsM L).length = L.length := by simp [sgsM]
set_option maxHeartbeats 4000000 in
theorem jopen_any {w : World} {X n0 : Nat} {F : Nat → Prop} {d : Dk} (hp : PD w X F d) (ok : Ok d n0 1000000) (hn0 : n0 ≤ 100000) (hby : ByD d) :
    Calls Try.prog 11 #[.pointer (some ⟨X, 0, none⟩)] w fun e w' => OnOut w w' X F d e := by
  have hra := jreadAll_any hp ok hn0 hby
  unfold RaOut at hra
  have hL : (sgsM d.L).length ≤ 100000 := by rw [sgs_len]; have := ok.len; omega
  by_cases hr : rdA d = 0
  · rw [hr] at hra
    have hw0 := fun (W : World) (v : Value) (h : RdSg W (sgsM d.L) v) => jwrong_any h hL
    by_cases hwr : wrongB (sgsM d.L) = true
    · have hO : opnM d = (d, 9, []) := by unfold opnM; rw [if_neg (by simp [hr]), if_pos hwr]
      unfold OnOut
      rw [hO, ]
      rw [hwr] at hw0
      simp only [forall_const] at hra
      have HP := hideD (hp.mono (G := nF F w) (fun j _ hj => .inl hj))
      dsimp only
      clear hO hp ok hby
      go_enter Try.func11, Try.ntmps11
      go_wp2_with (first
        | (go_at_call 32; refine hra.mono ?_; rintro e w2 ⟨v2, rfl, o2, b2⟩; have hw0 := hw0 _ _ (own_rdSg o2); have HB2 := hideD b2; clear hra o2 b2)
        | (go_at_call 33; refine hw0.mono ?_; rintro e w3 ⟨rfl, b3⟩; have HB3 := hideD (HB2.out.trans (b3.mono HB2.out.size)); clear hw0 b3)
        | fail)
      (try simp only [Exit.inBlock, Exit.then])
      refine bodyPost_ret (results_tmp3 rfl _ _ _) rfl ?_
      exact ⟨_, _, rfl, HP.out.on (HB3.out.mono (Nat.le_refl _)), Kf.of HB3.out (Nat.le_refl _), fun _ => ⟨rfl, rfl⟩, fun h => by simp at h⟩
    · have hwr' : wrongB (sgsM d.L) = false := by simpa using hwr
      rw [hwr'] at hw0
      simp only [forall_const] at hra
      have hti := fun (W : World) (v : Value) (o2 : OwnK W w.heap.size 77 7 rSg v (sgsM d.L)) (b2 : Below w.heap.size w W) => jtidy_any (w := W) (B := w.heap.size) (hp.clip.on b2) ok (RdK.stay kp_Sg (o2.rd kp_Sg) (fun b hb hlt => ⟨⟨hb, hlt⟩, rfl⟩)) (fun j hj => hj.2) b2.size (fun x hx => by
        obtain ⟨y, hy, rfl⟩ := List.mem_map.1 hx
        exact (ok.s y hy).2) hL (fun h0 => by rw [h0] at o2; exact row0_of o2)
      unfold TiOut at hti
      have hO : opnM d = if (tidM d (sgsM d.L)).2.1 ≠ 0 then ((tidM d (sgsM d.L)).1, (tidM d (sgsM d.L)).2.1, []) else ((tidM d (sgsM d.L)).1, 0, (tidM d (sgsM d.L)).2.2) := by unfold opnM; rw [if_neg (by simp [hr]), if_neg hwr]
      unfold OnOut
      obtain ⟨o, ho⟩ : ∃ o, tidM d (sgsM d.L) = o := ⟨_, rfl⟩
      rw [ho] at hti hO
      have hrc := tid_recs d
      rw [ho] at hrc
      have hus := ok.us
      obtain ⟨d', e', L'⟩ := o
      simp only at hti hO hrc
      replace hrc : (opR L').length ≤ 1000000 := Nat.le_trans hrc hus
      have hwid : ∀ W, Below w.heap.size w W → ∀ j, nF (cF F w) W j → nF F w j := fun W b j hj => hj.imp (fun h => h.1) (fun h => Nat.le_trans b.size h)
      have hkf : ∀ W W', Below w.heap.size w W → Kf (cF F w) W W' → Kf F w W' := fun W W' b k => (Kf.of b (Nat.le_refl _)).trans (k.mono (fun j h => h.1))
      by_cases he : e' = 0
      · subst he
        rw [if_neg (by simp)] at hO
        rw [hO]
        dsimp only
        simp only [forall_const] at hti
        clear hO hp ok hby ho hwr hwr'
        go_enter Try.func11, Try.ntmps11
        go_upto_region 11 with (first
          | (go_at_call 32; refine hra.mono ?_; rintro e w2 ⟨v2, rfl, o2, b2⟩; have hw0 := hw0 _ _ (own_rdSg o2); have HO2 := hideD o2; have HB2 := hideD b2; clear hra o2 b2)
          | (go_at_call 33; refine hw0.mono ?_; rintro e w3 ⟨rfl, b3⟩; have hti := hti w3 _ (HO2.out.on kp_Sg b3) (HB2.out.trans (b3.mono HB2.out.size)); have HB3 := hideD (HB2.out.trans (b3.mono HB2.out.size)); clear hw0 b3 HO2)
          | (go_at_call 34; refine hti.mono ?_; rintro e w4 ⟨v4, rfl, hr4, hp4, hk4⟩; have HP4 := hideD (And.intro hr4 (And.intro hp4 hk4)); clear hti hr4 hp4 hk4)
          | fail)
        obtain ⟨hr4, hp4, hk4⟩ := HP4.out
        have hsz4 : w.heap.size ≤ w4.heap.size := Nat.le_trans HB3.out.size hk4.size
        have HQ := hideD (And.intro (hp4.mono (fun j hj h => ⟨hwid _ HB3.out j h, hj⟩) : PD w4 X (fun j => nF F w j ∧ j < w4.heap.size) d') (And.intro (hkf _ _ HB3.out hk4) hsz4))
        obtain ⟨a4, c4, rfl, hlc, hcm⟩ := id hr4.form
        unfold maxLen at hcm
        have HR4 := hideD hr4.rd
        have HR4B := hideD hr4
        clear HP4 hp4 hk4 hr4 hsz4 HB2 HB3 hkf hwid
        obtain ⟨w5, hw5⟩ : ∃ k, w4.alloc (.cells #[.pointer (some ⟨X, 0, none⟩), .int .i64 0, .int .i64 0, .int .i64 0, .bool false, .int .i64 0, .bool false] 75) = k := ⟨_, rfl⟩
        have hal : Below w4.heap.size w4 w5 := by rw [← hw5]; exact (Below.refl _ _).alloc (Nat.le_refl _) _
        have hs5 : w5.heap.size = w4.heap.size + 1 := by rw [← hw5]; simp
        have hBJ : Bn w5 w4.heap.size (jC X ⟨0, 0, 0, false, 0, false⟩) := by rw [← hw5]; exact Bn.new w4 _ _ _ rfl
        have HW5 := hideD hw5
        have H0 := hideD (And.intro hal (And.intro hs5 hBJ))
        clear hal hw5 hs5 hBJ
        go_upto_region 14 with fail
        rw [HW5.out]
        obtain ⟨J, hJ⟩ : ∃ k, w4.heap.size = k := ⟨_, rfl⟩
        rw [hJ]
        have HJ := hideD hJ
        clear hJ
        obtain ⟨ib, hi, hi0, hi1, hi2⟩ := inf_getJ inf_bytes
        obtain ⟨N, hN⟩ : ∃ k, L'.length = k := ⟨_, rfl⟩
        have HN := hideD hN
        rw [hN] at hlc ⊢
        have HRC := hideD hrc
        have hq0 := H0.out
        rw [HJ.out] at hq0
        have HI := hideD (show ∃ cs : List Value, w5.ownsRow (J + 1) 41 1 (.slice none 0 0) cs.length cs ∧ RdCsB w.heap.size w4 cs (opR (L'.take 0)) ∧ Bn w5 J (jC X (opJ0 (L'.take 0))) ∧ Below J w4 w5 ∧ J + 1 ≤ w5.heap.size from ⟨[], World.ownsRow_nil _ _ _ _, ⟨rfl, fun i hi => absurd hi (by simp [opR])⟩, hq0.2.2, hq0.1, by omega⟩)
        clear hN hrc hq0 H0
        go_loopw [8, 37] (fun rc ix wr => ∃ (k : Nat), k ≤ N ∧ ix = .int .i64 (k : Int) ∧ Hid (∃ cs : List Value, wr.ownsRow (J + 1) 41 1 rc cs.length cs ∧ RdCsB w.heap.size w4 cs (opR (L'.take k)) ∧ Bn wr J (jC X (opJ0 (L'.take k))) ∧ Below J w4 wr ∧ J + 1 ≤ wr.heap.size)) (fun _ ix _ => N - (RowKit.intOf ix).toNat)
        case atStart => exact ⟨0, Nat.zero_le _, rfl, HI⟩
        case round =>
          clear HI
          obtain ⟨k, hk, rfl, HI⟩ := hrel
          obtain ⟨cs, hO, hC, hBJ, hB, hsz⟩ := HI.out
          clear HI
          obtain ⟨oa, oc, rfl, _, _⟩ := ownf_formJ hO
          by_cases hlt : k < N
          · have hkl : k < L'.length := by rw [HN.out]; exact hlt
            have hr5 := HR4.out.on (w' := wr) (by rw [HJ.out]; exact hB)
            obtain ⟨g, off, ra, rc, rfl, hg, c0, c1, c2, c3, c4', c5, c6, -⟩ := RdSg.at hr5 hkl
            obtain ⟨g', off', ra', rc', e, hg4, -, -, c2', -, -, -, -, hrk⟩ := RdSgB.at HR4B.out hkl
            simp only [Option.some.injEq, Addr.mk.injEq, and_true] at e
            obtain ⟨rfl, rfl⟩ := e
            have hcc := ((hB.cell (p := ⟨g, off + k * 7 + 2, none⟩) (by rw [← HJ.out]; exact hg4)).trans c2').symm.trans c2
            simp only [Option.some.injEq, Value.slice.injEq, true_and] at hcc
            obtain ⟨rfl, rfl⟩ := hcc
            obtain ⟨cr, hcr, hsrc⟩ := rdk_cellsB hrk
            rw [HJ.out] at hsrc
            have htk := opR_take hkl
            have hle := opR_le L' (k + 1)
            rw [htk] at hle
            rw [List.length_append] at hle
            have hrl := HRC.out
            have hcl := hC.1
            have hcrl := hcr.1
            have hC2 := hC.app hcr
            rw [← htk] at hC2
            obtain ⟨y, hy⟩ : ∃ y, L'[k] = y := ⟨_, rfl⟩
            have hj1 := fun h0 => opJ0_go hkl h0
            have hj0 := opJ0_one (L := L') (by omega)
            rw [hy] at c0 c1 c2 c3 c4' c5 c6 hcr hcrl htk hle hj1
            obtain ⟨rl, hrl2⟩ : ∃ k, y.2.2.recs.length = k := ⟨_, rfl⟩
            obtain ⟨cl, hcl2⟩ : ∃ k, cs.length = k := ⟨_, rfl⟩
            rw [hrl2] at c2 hcrl hle
            rw [hcl2] at hO hcl ⊢
            have k1 : (k : Int) < (N : Int) := by omega
            have k2 : (0 : Int) ≤ (k : Int) := by omega
            have hJl : J < wr.heap.size := by omega
            obtain ⟨j1, e1⟩ := hBJ 1 _ rfl
            obtain ⟨j3, e3⟩ := hBJ 3 _ rfl
            obtain ⟨j4, e4⟩ := hBJ 4 _ rfl
            have HKN := hideD (And.intro htk (And.intro hle (And.intro hrl (And.intro hcl (And.intro hcrl (And.intro hC2 (And.intro hrl2 hcl2)))))))
            have hlim : cl + rl ≤ 1000000 := by omega
            rw [hy, hrl2] at hsrc
            have HSRC := hideD hsrc
            have HJ1 := hideD hj1
            have HJ0 := hideD hj0
            have HO := hideD hO
            have HB := hideD hB
            have HBJ := hideD hBJ
            have HY := hideD hy
            clear htk hle hrl hcl hcrl hC2 hrl2 hcl2 hC hcr hsrc hj1 hj0 hO hB hBJ hr5 hrk hg hg4 c2' hy
            by_cases h0 : k = 0
            · subst h0
              rw [Nat.zero_mul, Nat.add_zero] at c0 c1 c2 c3 c4' c5 c6
              go_wp2
              go_region
              have hb2 : Bn (((wr.setCell ⟨J, 1, none⟩ (.int .i64 y.1)).setCell ⟨J, 3, none⟩ (.int .i64 (y.2.1 : Int))).setCell ⟨J, 4, none⟩ (.bool y.2.2.torn)) J (jC X ⟨y.1, 0, (y.2.1 : Int), y.2.2.torn, 0, false⟩) := ((HBJ.out.set (i := 1) (by simp [jC]) _).set (i := 3) (by simp [jC]) _).set (i := 4) (by simp [jC]) _
              have hB2 : Below J w4 (((wr.setCell ⟨J, 1, none⟩ (.int .i64 y.1)).setCell ⟨J, 3, none⟩ (.int .i64 (y.2.1 : Int))).setCell ⟨J, 4, none⟩ (.bool y.2.2.torn)) := ((HB.out.setCell (Nat.le_refl _) _).setCell (Nat.le_refl _) _).setCell (Nat.le_refl _) _
              have hs1 : (((wr.setCell ⟨J, 1, none⟩ (.int .i64 y.1)).setCell ⟨J, 3, none⟩ (.int .i64 (y.2.1 : Int))).setCell ⟨J, 4, none⟩ (.bool y.2.2.torn)).heap.size = wr.heap.size := by simp
              have hs2 : J + 1 ≤ (((wr.setCell ⟨J, 1, none⟩ (.int .i64 y.1)).setCell ⟨J, 3, none⟩ (.int .i64 (y.2.1 : Int))).setCell ⟨J, 4, none⟩ (.bool y.2.2.torn)).heap.size := by rw [hs1]; exact hsz
              have hO2 : (((wr.setCell ⟨J, 1, none⟩ (.int .i64 y.1)).setCell ⟨J, 3, none⟩ (.int .i64 (y.2.1 : Int))).setCell ⟨J, 4, none⟩ (.bool y.2.2.torn)).ownsRow (J + 1) 41 1 (.slice oa cl oc) cl cs := ownsRow_setCell_below (ownsRow_setCell_below (ownsRow_setCell_below HO.out (Nat.lt_succ_self J) _) (Nat.lt_succ_self J) _) (Nat.lt_succ_self J) _
              generalize ((wr.setCell ⟨J, 1, none⟩ (.int .i64 y.1)).setCell ⟨J, 3, none⟩ (.int .i64 (y.2.1 : Int))).setCell ⟨J, 4, none⟩ (.bool y.2.2.torn) = Wz at *
              obtain ⟨W18, hW⟩ : ∃ k, (Wz.alloc (.cells #[.int .i64 y.1, .int .i64 (y.2.1 : Int), .slice ra' rl rc', .bool y.2.2.begun, .bool y.2.2.ended, .bool y.2.2.torn, .bool y.2.2.wrong] 77)).drew = k := ⟨_, rfl⟩
              rw [hW]
              have HW := hideD hW
              clear hW
              obtain ⟨q1, q2, q3, q4, q5⟩ := jo_alloc (W := W18) hb2 hB2 hs2 hO2 HW.out
              rw [hs1] at q5
              obtain ⟨p2, -⟩ := q5 2 _ rfl
              have hsrc := HSRC.out _ q2
              have HQ1 := hideD (And.intro q1 (And.intro q2 (And.intro q3 q4)))
              clear HW hb2 hB2 hs2 hO2 q1 q2 q5
              go_wp2_with (first
                | (at_builtin; refine wpList_append_at _ rfl _ _ 30 30 rfl (J + 1) 41 ib (.slice none 0 0) 1 24 Try.underlying30 hi hi0 hi1 hi2 rfl (.slice oa cl oc) cl cs rfl q4 _ rl cr rfl hsrc rl (.inr (by omega)) (Nat.le_refl _) (by unfold maxLen; omega) q3 ?_; intro vb wb hOb hgb hat; obtain ⟨z1, z2, z3⟩ := jo_next HQ1.out.1 HQ1.out.2.1 HQ1.out.2.2.1 HQ1.out.2.2.2 hgb; have HZ := hideD (And.intro hOb (And.intro z1 (And.intro z2 z3))); clear hOb hgb hat z1 z2 z3 q3 q4 hsrc)
                | fail)
              go_roundw
              case rel =>
                obtain ⟨t1, t2, t3, t4, t5, t6, t7, t8⟩ := HKN.out
                obtain ⟨z0, z1, z2, z3⟩ := HZ.out
                refine ⟨0 + 1, hlt, by go_num, hideD ⟨cs ++ cr, ?_, t6, ?_, z2, z3⟩⟩
                · rw [List.length_append, t5, t8]
                  exact z0
                · rw [HJ0.out, HY.out]
                  exact z1
              case measure => simp [RowKit.intOf]; omega
            · have k0 : ¬ (k : Int) = 0 := by omega
              go_wp2
              go_region
              have hb2 : Bn ((wr.setCell ⟨J, 3, none⟩ (.int .i64 (y.2.1 : Int))).setCell ⟨J, 4, none⟩ (.bool y.2.2.torn)) J (jC X ⟨(opJ0 (L'.take k)).first, 0, (y.2.1 : Int), y.2.2.torn, 0, false⟩) := (HBJ.out.set (i := 3) (by simp [jC]) _).set (i := 4) (by simp [jC]) _
              have hB2 : Below J w4 ((wr.setCell ⟨J, 3, none⟩ (.int .i64 (y.2.1 : Int))).setCell ⟨J, 4, none⟩ (.bool y.2.2.torn)) := (HB.out.setCell (Nat.le_refl _) _).setCell (Nat.le_refl _) _
              have hs1 : ((wr.setCell ⟨J, 3, none⟩ (.int .i64 (y.2.1 : Int))).setCell ⟨J, 4, none⟩ (.bool y.2.2.torn)).heap.size = wr.heap.size := by simp
              have hs2 : J + 1 ≤ ((wr.setCell ⟨J, 3, none⟩ (.int .i64 (y.2.1 : Int))).setCell ⟨J, 4, none⟩ (.bool y.2.2.torn)).heap.size := by rw [hs1]; exact hsz
              have hO2 : ((wr.setCell ⟨J, 3, none⟩ (.int .i64 (y.2.1 : Int))).setCell ⟨J, 4, none⟩ (.bool y.2.2.torn)).ownsRow (J + 1) 41 1 (.slice oa cl oc) cl cs := ownsRow_setCell_below (ownsRow_setCell_below HO.out (Nat.lt_succ_self J) _) (Nat.lt_succ_self J) _
              generalize (wr.setCell ⟨J, 3, none⟩ (.int .i64 (y.2.1 : Int))).setCell ⟨J, 4, none⟩ (.bool y.2.2.torn) = Wz at *
              obtain ⟨W18, hW⟩ : ∃ k, (Wz.alloc (.cells #[.int .i64 y.1, .int .i64 (y.2.1 : Int), .slice ra' rl rc', .bool y.2.2.begun, .bool y.2.2.ended, .bool y.2.2.torn, .bool y.2.2.wrong] 77)).drew = k := ⟨_, rfl⟩
              rw [hW]
              have HW := hideD hW
              clear hW
              obtain ⟨q1, q2, q3, q4, q5⟩ := jo_alloc (W := W18) hb2 hB2 hs2 hO2 HW.out
              rw [hs1] at q5
              obtain ⟨p2, -⟩ := q5 2 _ rfl
              have hsrc := HSRC.out _ q2
              have HQ1 := hideD (And.intro q1 (And.intro q2 (And.intro q3 q4)))
              clear HW hb2 hB2 hs2 hO2 q1 q2 q5
              go_wp2_with (first
                | (at_builtin; refine wpList_append_at _ rfl _ _ 30 30 rfl (J + 1) 41 ib (.slice none 0 0) 1 24 Try.underlying30 hi hi0 hi1 hi2 rfl (.slice oa cl oc) cl cs rfl q4 _ rl cr rfl hsrc rl (.inr (by omega)) (Nat.le_refl _) (by unfold maxLen; omega) q3 ?_; intro vb wb hOb hgb hat; obtain ⟨z1, z2, z3⟩ := jo_next HQ1.out.1 HQ1.out.2.1 HQ1.out.2.2.1 HQ1.out.2.2.2 hgb; have HZ := hideD (And.intro hOb (And.intro z1 (And.intro z2 z3))); clear hOb hgb hat z1 z2 z3 q3 q4 hsrc)
                | fail)
              go_roundw
              case rel =>
                obtain ⟨t1, t2, t3, t4, t5, t6, t7, t8⟩ := HKN.out
                obtain ⟨z0, z1, z2, z3⟩ := HZ.out
                refine ⟨k + 1, hlt, by go_num, hideD ⟨cs ++ cr, ?_, t6, ?_, z2, z3⟩⟩
                · rw [List.length_append, t5, t8]
                  exact z0
                · rw [HJ1.out (by omega)]
                  exact z1
              case measure => simp [RowKit.intOf]; omega
          · have k1 : ¬ (k : Int) < (N : Int) := by omega
            have hkN : L'.take k = L' := List.take_of_length_le (by rw [HN.out]; omega)
            rw [hkN] at hC hBJ
            obtain ⟨j2, e2⟩ := hBJ 2 _ rfl
            obtain ⟨j5, e5⟩ := hBJ 5 _ rfl
            obtain ⟨cl, hcl⟩ : ∃ k, cs.length = k := ⟨_, rfl⟩
            have hBf : Bn ((wr.setCell ⟨J, 2, none⟩ (.int .i64 (N : Int))).setCell ⟨J, 5, none⟩ (.int .i64 (cl : Int))) J (jC X (opJ L')) := by
              have h := (hBJ.set (i := 2) (by simp [jC]) (.int .i64 (N : Int))).set (i := 5) (by simp [jC]) (.int .i64 (cl : Int))
              have e : jC X (opJ L') = ((jC X (opJ0 L')).set 2 (.int .i64 (N : Int))).set 5 (.int .i64 (cl : Int)) := by
                have h1 : ((L'.length : Nat) : Int) = (N : Int) := by rw [HN.out]
                have h2 : (((opR L').length : Nat) : Int) = (cl : Int) := by rw [← hC.1, hcl]
                unfold opJ0 opJ jC
                simp [h1, h2]
              rw [e]
              exact h
            have hBe : Below J w4 ((wr.setCell ⟨J, 2, none⟩ (.int .i64 (N : Int))).setCell ⟨J, 5, none⟩ (.int .i64 (cl : Int))) := (hB.setCell (Nat.le_refl _) _).setCell (Nat.le_refl _) _
            have hOf : ((wr.setCell ⟨J, 2, none⟩ (.int .i64 (N : Int))).setCell ⟨J, 5, none⟩ (.int .i64 (cl : Int))).ownsRow (J + 1) 41 1 (.slice oa cs.length oc) cs.length cs := ownsRow_setCell_below (ownsRow_setCell_below hO (Nat.lt_succ_self J) _) (Nat.lt_succ_self J) _
            have hBe : Below w4.heap.size w4 ((wr.setCell ⟨J, 2, none⟩ (.int .i64 (N : Int))).setCell ⟨J, 5, none⟩ (.int .i64 (cl : Int))) := by rw [HJ.out]; exact hBe
            have hbs := rdCs_bsB (A := w.heap.size) (by have := HQ.out.2.2; have := HJ.out; omega) hOf (hC.on hBe)
            rw [hcl] at hbs ⊢
            obtain ⟨m1, m2, m3⟩ := HQ.out
            have HM := hideD (And.intro (m1.on hBe) (And.intro (m2.trans (Kf.of hBe (Nat.le_refl _))) (And.intro m3 (And.intro hBf hbs))))
            clear hBf hBe hOf hbs m1 m2 m3 hC hBJ hB hO hcl hkN
            go_wp2
            (try simp only [Exit.inBlock, Exit.then])
            refine bodyPost_ret (results_tmp3 rfl _ _ _) rfl ?_
            obtain ⟨m1, m2, m3, m4, m5⟩ := HM.out
            rw [HJ.out] at m1 m3
            exact ⟨_, _, rfl, m1.mono (fun j _ h => h.1), m2, J, rfl, m3, m1, m4, m5⟩
      · rw [if_pos he] at hO
        rw [hO]
        dsimp only
        have HE := hideD he
        have heb : (e' == 0) = false := by simpa using he
        clear hO hp ok hby ho hwr hwr'
        go_enter Try.func11, Try.ntmps11
        go_wp2_with (first
          | (go_at_call 32; refine hra.mono ?_; rintro e w2 ⟨v2, rfl, o2, b2⟩; have hw0 := hw0 _ _ (own_rdSg o2); have HO2 := hideD o2; have HB2 := hideD b2; clear hra o2 b2)
          | (go_at_call 33; refine hw0.mono ?_; rintro e w3 ⟨rfl, b3⟩; have hti := hti w3 _ (HO2.out.on kp_Sg b3) (HB2.out.trans (b3.mono HB2.out.size)); have HB3 := hideD (HB2.out.trans (b3.mono HB2.out.size)); clear hw0 b3 HO2)
          | (go_at_call 34; refine hti.mono ?_; rintro e w4 ⟨v4, rfl, hr4, hp4, hk4⟩; have HP4 := hideD (And.intro hp4 hk4); clear hti hr4 hp4 hk4)
          | fail)
        (try simp only [Exit.inBlock, Exit.then])
        refine bodyPost_ret (results_tmp3 rfl _ _ _) rfl ?_
        exact ⟨_, _, rfl, HP4.out.1.mono (fun j _ h => hwid _ HB3.out j h), hkf _ _ HB3.out HP4.out.2, fun _ => ⟨rfl, rfl⟩, fun h => absurd h HE.out⟩
  · have hO : opnM d = (d, rdA d, []) := by unfold opnM; rw [if_pos hr]
    unfold OnOut
    rw [hO]
    dsimp only
    have HP := hideD (hp.mono (G := nF F w) (fun j _ hj => .inl hj))
    have HR := hideD hr
    have hrb : (rdA d == 0) = false := by simpa using hr
    generalize rdA d = r at *
    clear hO hp ok hby
    go_enter Try.func11, Try.ntmps11
    go_wp2_with (first
      | (go_at_call 32; refine hra.mono ?_; rintro e w2 ⟨v2, rfl, o2, b2⟩; have HB2 := hideD b2; clear hra o2 b2)
      | fail)
    (try simp only [Exit.inBlock, Exit.then])
    refine bodyPost_ret (results_tmp3 rfl _ _ _) rfl ?_
    exact ⟨_, _, rfl, HP.out.on HB2.out, Kf.of HB2.out (Nat.le_refl _), fun _ => ⟨rfl, rfl⟩, fun h => absurd h HR.out⟩
end Go.Proofs.Ytpblcahcpobicaa

/- Math: the program and the document call the same wrong. -/
namespace Go.Proofs.Ytpblcahcpobicaa
open Go.RowKit Go.Lib Go.Maps
set_option linter.unusedSimpArgs false
set_option linter.unusedVariables false

theorem wrB_no (n0 : Int) (m : Nat) : ∀ (L : List SgT) (i : Nat), wrB n0 m i L = false ↔ ∀ j (h : j < L.length), (L[j]).2.2.wrong = false ∧ wrap64 ((L[j]).1 - n0) = ((i + j : Nat) : Int) ∧ (unfB (L[j]).2.2 = true → i + j + 1 = m)
  | [], i => by simp [wrB]
  | x :: r, i => by
    unfold wrB
    constructor
    · intro h j hj
      split at h
      · cases h
      · rename_i hc
        have hc1 : x.2.2.wrong = false := by
          cases e : x.2.2.wrong with
          | false => rfl
          | true => exact absurd (.inl e) hc
        have hc2 : wrap64 (x.1 - n0) = (i : Int) := Classical.byContradiction fun e => hc (.inr (.inl e))
        have hc3 : unfB x.2.2 = true → i + 1 = m := fun u => Classical.byContradiction fun e => hc (.inr (.inr ⟨u, e⟩))
        cases j with
        | zero => exact ⟨hc1, hc2, hc3⟩
        | succ j =>
          have := (wrB_no n0 m r (i + 1)).1 h j (by simpa using hj)
          simp only [List.getElem_cons_succ]
          rwa [show i + (j + 1) = i + 1 + j from by omega]
    · intro h
      have h0 := h 0 (by simp)
      simp only [List.getElem_cons_zero, Nat.add_zero] at h0
      rw [if_neg]
      · exact (wrB_no n0 m r (i + 1)).2 fun j hj => by
          have := h (j + 1) (by simpa using hj)
          simp only [List.getElem_cons_succ] at this
          rwa [show i + (j + 1) = i + 1 + j from by omega] at this
      · rintro (e | e | e)
        · rw [h0.1] at e; cases e
        · exact e h0.2.1
        · exact e.2 (h0.2.2 e.1)
theorem okQ_iff (L : List SgT) : okQ L = true ↔ ∀ i, i < L.length → badQ L i = false := by
  refine ⟨fun h i hi => ?_, okQ_yes⟩
  unfold okQ at h
  rw [List.all_eq_true] at h
  simpa using h i (List.mem_range.2 hi)
theorem nmQ_at {L : List SgT} {i : Nat} (h : i < L.length) : nmQ L i = (L[i]).1 := by
  unfold nmQ
  simp [List.getD_eq_getElem?_getD, h]
theorem wq_go {x y n0 : Int} {k : Nat} (hk : k ≤ 100000) (h1 : wrap64 (x - n0) = ((k + 1 : Nat) : Int)) (h2 : wrap64 (y - n0) = (k : Int)) (hy : -9223372036854775808 ≤ y ∧ y ≤ 9223372036854775807) : y = wrap64 (x - 1) := by
  unfold wrap64 at *
  omega
theorem wq_back {x y n0 : Int} {k : Nat} (hk : k ≤ 100000) (h1 : y = wrap64 (x - 1)) (h2 : wrap64 (y - n0) = (k : Int)) : wrap64 (x - n0) = ((k + 1 : Nat) : Int) := by
  unfold wrap64 at *
  omega
theorem wrong_okQ {L : List SgT} (hr : ∀ x ∈ L, -9223372036854775808 ≤ x.1 ∧ x.1 ≤ 9223372036854775807) (hl : L.length ≤ 100000) : wrongB L = !okQ L := by
  obtain ⟨n0, hn0⟩ : ∃ k, (L.head?.map (·.1)).getD 0 = k := ⟨_, rfl⟩
  have h00 : ∀ h : 0 < L.length, (L[0]).1 = n0 := by
    intro h
    rw [← hn0]
    cases L with
    | nil => simp at h
    | cons y r => rfl
  have key : wrongB L = false ↔ okQ L = true := by
    unfold wrongB
    rw [hn0, wrB_no, okQ_iff]
    constructor
    · intro h i hi
      rw [badQ_at hi]
      obtain ⟨a, b, c⟩ := h i hi
      have e2 : (decide (0 < i) && decide (nmQ L (i - 1) ≠ wrap64 ((L[i]).1 - 1))) = false := by
        cases i with
        | zero => rfl
        | succ k =>
          have hk : k < L.length := by omega
          have hb := (h k hk).2.1
          rw [Nat.zero_add] at b hb
          have := wq_go (by omega) b hb (hr _ (List.getElem_mem hk))
          rw [Nat.add_sub_cancel, nmQ_at hk, this]
          simp
      have e3 : (unfB (L[i]).2.2 && decide (i + 1 < L.length)) = false := by
        cases e : unfB (L[i]).2.2 with
        | false => rfl
        | true =>
          have := c e
          simp only [Bool.true_and, decide_eq_false_iff_not]
          omega
      rw [a, e2, e3]
      rfl
    · intro h
      have hb : ∀ i (hi : i < L.length), (L[i]).2.2.wrong = false ∧ (decide (0 < i) && decide (nmQ L (i - 1) ≠ wrap64 ((L[i]).1 - 1))) = false ∧ (unfB (L[i]).2.2 && decide (i + 1 < L.length)) = false := by
        intro i hi
        have := h i hi
        rw [badQ_at hi, Bool.or_eq_false_iff, Bool.or_eq_false_iff] at this
        exact ⟨this.1.1, this.1.2, this.2⟩
      have hn : ∀ i (hi : i < L.length), wrap64 ((L[i]).1 - n0) = (i : Int) := by
        intro i
        induction i with
        | zero =>
          intro hi
          rw [h00 hi, Int.sub_self]
          unfold wrap64
          omega
        | succ k ih =>
          intro hi
          have hk : k < L.length := by omega
          have e := (hb (k + 1) hi).2.1
          rw [Nat.add_sub_cancel, nmQ_at hk] at e
          have e1 : (L[k]).1 = wrap64 ((L[k + 1]).1 - 1) := by simpa using e
          exact wq_back (by omega) e1 (ih hk)
      intro i hi
      obtain ⟨a, -, c⟩ := hb i hi
      refine ⟨a, by rw [Nat.zero_add]; exact hn i hi, fun u => ?_⟩
      rw [u] at c
      simp only [Bool.true_and, decide_eq_false_iff_not] at c
      omega
  cases e : wrongB L with
  | false => rw [key.1 e]; rfl
  | true =>
    cases e2 : okQ L with
    | false => rfl
    | true => rw [key.2 e2] at e; cases e
theorem disk_okQ {d : Dk} {n u : Nat} (ok : Ok d n u) (hn : n ≤ 100000) : wrongB (sgsM d.L) = !okQ (sgsM d.L) := by
  refine wrong_okQ (fun x hx => ?_) (by rw [sgs_len]; have := ok.len; omega)
  unfold sgsM at hx
  obtain ⟨y, hy, rfl⟩ := List.mem_map.1 hx
  exact wf_in (ok.s y hy).2

theorem lk_inJ {β : Type} {n : Int} {b : β} : ∀ {l : List (Int × β)}, Ris l → (n, b) ∈ l → lk n l = some b
  | [], _, h => by simp at h
  | y :: r, hs, h => by
    obtain ⟨h1, h2⟩ := List.pairwise_cons.1 hs
    unfold lk
    rcases List.mem_cons.1 h with rfl | h
    · exact if_pos rfl
    · have := h1 _ h
      rw [if_neg (by simp only at this; omega)]
      exact lk_inJ h2 h
theorem dl_headJ {β : Type} {y : Int × β} {r : List (Int × β)} (hs : Ris (y :: r)) : dl y.1 (y :: r) = r := by
  obtain ⟨h1, -⟩ := List.pairwise_cons.1 hs
  unfold dl
  rw [List.filter_cons, if_neg (by simp)]
  refine List.filter_eq_self.2 fun x hx => ?_
  have := h1 x hx
  have e : ¬ x.1 = y.1 := by omega
  simp [e]
theorem dl_lastJ {β : Type} {y : Int × β} {r : List (Int × β)} (hs : Ris (r ++ [y])) : dl y.1 (r ++ [y]) = r := by
  obtain ⟨-, -, h1⟩ := List.pairwise_append.1 hs
  unfold dl
  rw [List.filter_append, List.filter_cons, if_neg (by simp), List.filter_nil, List.append_nil]
  refine List.filter_eq_self.2 fun x hx => ?_
  have := h1 x hx y (by simp)
  have e : ¬ x.1 = y.1 := by omega
  simp [e]
theorem opM_in {d : Dk} {n : Int} {s : Sm} (h : lk n d.L = some s) (f : Sm → Dk) : ((opM d n f).2 = 8 ∨ (opM d n f).2 = 0) ∧ ((opM d n f).2 = 0 → (opM d n f).1 = f s) := by
  unfold opM
  rw [h]
  split
  · exact ⟨.inl rfl, fun e => absurd (show (8 : Int) = 0 from e) (by decide)⟩
  · simp only
    split
    · exact ⟨.inl rfl, fun e => absurd (show (8 : Int) = 0 from e) (by decide)⟩
    · exact ⟨.inr rfl, fun _ => rfl⟩
/-- The first so many dropped, where they are there. -/
theorem dps_in : ∀ (k : Nat) (d : Dk) (L : List SgT), Ris d.L → d.L.map (·.1) = L.map (·.1) → ((dpsM d (L.take k)).2 = 8 ∨ (dpsM d (L.take k)).2 = 0) ∧ ((dpsM d (L.take k)).2 = 0 → (dpsM d (L.take k)).1.L = d.L.drop k)
  | 0, d, L, _, _ => ⟨.inr rfl, fun _ => rfl⟩
  | k + 1, d, L, hr, he => by
    cases L with
    | nil =>
      have : d.L = [] := by simpa using he
      exact ⟨.inr rfl, fun _ => by rw [this]; simp [dpsM, this]⟩
    | cons x r =>
      obtain ⟨y, s, hys⟩ : ∃ y s, d.L = y :: s := by
        cases e : d.L with
        | nil => rw [e] at he; simp at he
        | cons y s => exact ⟨y, s, rfl⟩
      rw [hys] at he
      simp only [List.map_cons, List.cons.injEq] at he
      obtain ⟨e1, e2⟩ := he
      obtain ⟨a1, a2⟩ := opM_in (d := d) (n := x.1) (s := y.2) (by rw [hys]; unfold lk; exact if_pos e1) (drpF d x.1)
      rw [List.take_succ_cons]
      unfold dpsM
      by_cases h0 : (opM d x.1 (drpF d x.1)).2 = 0
      · rw [if_pos h0]
        have hL : (opM d x.1 (drpF d x.1)).1.L = s := by
          rw [a2 h0]
          show dl x.1 d.L = s
          rw [hys, ← e1]
          exact dl_headJ (by rw [← hys]; exact hr)
        obtain ⟨b1, b2⟩ := dps_in k (opM d x.1 (drpF d x.1)).1 r (by rw [hL]; exact (List.pairwise_cons.1 (by rw [← hys]; exact hr)).2) (by rw [hL]; exact e2)
        refine ⟨b1, fun h => ?_⟩
        rw [b2 h, hL, hys]
        rfl
      · rw [if_neg h0]
        exact ⟨a1, fun h => absurd h h0⟩
theorem sgs_map (L : List (Int × Sm)) : (sgsM L).map (·.1) = L.map (·.1) := by
  unfold sgsM
  rw [List.map_map]
  rfl
/-- The last one dropped, where it is unfinished. -/
theorem lst_in {d : Dk} (hr : Ris d.L) : ((lstM d (sgsM d.L)).2.1 = 8 ∨ (lstM d (sgsM d.L)).2.1 = 0) ∧ ((lstM d (sgsM d.L)).2.1 = 0 → Ris (lstM d (sgsM d.L)).1.L ∧ (lstM d (sgsM d.L)).1.L.map (·.1) = (lstM d (sgsM d.L)).2.2.map (·.1)) := by
  unfold lstM
  rcases List.eq_nil_or_concat d.L with e | ⟨r, y, e⟩
  · rw [e]
    refine ⟨.inr rfl, fun _ => ⟨?_, ?_⟩⟩
    · show Ris d.L
      exact hr
    · show d.L.map (·.1) = ([] : List SgT).map (·.1)
      rw [e]
      rfl
  · have e0 : d.L = r ++ [y] := by rw [e]; simp
    have es : sgsM d.L = sgsM r ++ [(y.1, y.2.1.length, jPrsB y.2.1)] := by rw [e0]; simp [sgsM]
    rw [es, List.getLast?_append, List.getLast?_singleton]
    simp only [Option.some_or]
    split
    · obtain ⟨a1, a2⟩ := opM_in (d := d) (n := y.1) (s := y.2) (lk_inJ hr (by rw [e0]; simp)) (drpF d y.1)
      refine ⟨a1, fun h => ?_⟩
      have hL : (opM d y.1 (drpF d y.1)).1.L = r := by
        rw [a2 h]
        show dl y.1 d.L = r
        rw [e0]
        exact dl_lastJ (by rw [← e0]; exact hr)
      simp only
      rw [hL]
      refine ⟨(List.pairwise_append.1 (by rw [← e0]; exact hr)).1, ?_⟩
      rw [List.dropLast_concat, sgs_map]
    · refine ⟨.inr rfl, fun _ => ⟨hr, ?_⟩⟩
      simp only
      rw [← es, sgs_map]
/-- An End stands behind a Begin alone. -/
theorem jTk_eb {s s' : SgM} {p : List Int} {z : Bool} (h : jTk s p z = some s') (hb : s.ended = true → s.begun = true) : s'.ended = true → s'.begun = true := by
  unfold jTk at h
  split at h
  · obtain rfl := Option.some.inj h
    exact hb
  · split at h
    · obtain rfl := Option.some.inj h
      exact fun _ => rfl
    · split at h
      · rename_i c
        obtain rfl := Option.some.inj h
        exact fun _ => c.2.2.1
      · cases h
theorem jPrs_eb : ∀ (f : Nat) (s : SgM) (a : Nat) (r : List Int), (s.ended = true → s.begun = true) → (jPrs f s a r).ended = true → (jPrs f s a r).begun = true
  | 0, s, _, _, h => h
  | f + 1, s, a, r, h => by
    unfold jPrs
    split
    · exact h
    · split
      · exact h
      · split
        · exact h
        · split
          · exact h
          · rename_i s' hk
            exact jPrs_eb f s' _ _ (jTk_eb hk h)
/-- The base, as the document finds it. -/
def bsQ : Nat → Nat → List SgT → Nat
  | b, _, [] => b
  | b, i, x :: r => bsQ (if x.2.2.begun = true then i else b) (i + 1) r
theorem bsQ_eq : ∀ (L : List SgT) (b i : Nat), (∀ x ∈ L, x.2.2.begun = x.2.2.ended) → bsQ b i L = bsB b i L
  | [], _, _, _ => rfl
  | x :: r, b, i, h => by
    unfold bsQ bsB
    rw [h x List.mem_cons_self]
    exact bsQ_eq r _ _ fun y hy => h y (List.mem_cons_of_mem _ hy)
theorem be_eq {s : SgM} (h1 : s.ended = true → s.begun = true) (h2 : unfB s = false) : s.begun = s.ended := by
  unfold unfB at h2
  cases e1 : s.begun <;> cases e2 : s.ended
  · rfl
  · rw [e1, e2] at h1; exact absurd (h1 rfl) (by decide)
  · rw [e1, e2] at h2; exact absurd h2 (by decide)
  · rfl
theorem lst_be {d : Dk} (h : okQ (sgsM d.L) = true) : ∀ x ∈ (lstM d (sgsM d.L)).2.2, x.2.2.begun = x.2.2.ended := by
  have hall : ∀ x ∈ sgsM d.L, x.2.2.ended = true → x.2.2.begun = true := by
    intro x hx
    unfold sgsM at hx
    obtain ⟨y, -, rfl⟩ := List.mem_map.1 hx
    exact jPrs_eb _ _ _ _ (fun e => absurd e (by decide))
  have hun : ∀ i (hi : i < (sgsM d.L).length), i + 1 < (sgsM d.L).length → unfB ((sgsM d.L)[i]).2.2 = false := by
    intro i hi hl
    have := (okQ_iff _).1 h i hi
    rw [badQ_at hi] at this
    simp only [Bool.or_eq_false_iff, decide_eq_true hl, Bool.and_true] at this
    exact this.2
  generalize sgsM d.L = L at hall hun ⊢
  rcases List.eq_nil_or_concat L with e | ⟨r, y, e⟩
  · subst e
    intro x hx
    simp [lstM] at hx
  · have e0 : L = r ++ [y] := by rw [e]; simp
    subst e0
    have hrr : ∀ x ∈ r, x.2.2.begun = x.2.2.ended := by
      intro x hx
      obtain ⟨i, hi, rfl⟩ := List.mem_iff_getElem.1 hx
      refine be_eq (hall _ (by simp)) ?_
      have := hun i (by simp; omega) (by simp; omega)
      rwa [List.getElem_append_left hi] at this
    unfold lstM
    rw [List.getLast?_append, List.getLast?_singleton]
    simp only [Option.some_or]
    split
    · simp only [List.dropLast_concat]
      exact hrr
    · rename_i hu
      intro x hx
      rcases List.mem_append.1 hx with hx | hx
      · exact hrr x hx
      · obtain rfl := List.mem_singleton.1 hx
        exact be_eq (hall _ (by simp)) (by simpa using hu)
/-- The disk behind the document's Open, its error, and the parts that stay. -/
def qopM (d : Dk) : Dk × Int × List SgT :=
  if d.dead = true ∧ d.L ≠ [] then (d, 8, []) else if okQ (sgsM d.L) = false then (d, 9, []) else
  if (lstM d (sgsM d.L)).2.1 ≠ 0 then ((lstM d (sgsM d.L)).1, 8, []) else
  if (dpsM (lstM d (sgsM d.L)).1 ((lstM d (sgsM d.L)).2.2.take (bsQ 0 0 (lstM d (sgsM d.L)).2.2))).2 ≠ 0 then ((dpsM (lstM d (sgsM d.L)).1 ((lstM d (sgsM d.L)).2.2.take (bsQ 0 0 (lstM d (sgsM d.L)).2.2))).1, 8, []) else
  ((dpsM (lstM d (sgsM d.L)).1 ((lstM d (sgsM d.L)).2.2.take (bsQ 0 0 (lstM d (sgsM d.L)).2.2))).1, 0, (lstM d (sgsM d.L)).2.2.drop (bsQ 0 0 (lstM d (sgsM d.L)).2.2))
theorem qop_eq {d : Dk} {n u : Nat} (ok : Ok d n u) (hn : n ≤ 100000) : qopM d = opnM d := by
  have hw := disk_okQ ok hn
  obtain ⟨l1, l2⟩ := lst_in ok.r
  unfold qopM opnM
  by_cases h1 : d.dead = true ∧ d.L ≠ []
  · have e : rdA d = 8 := if_pos h1
    rw [if_pos h1, if_pos (show rdA d ≠ 0 from by rw [e]; decide), e]
  · have e : rdA d = 0 := if_neg h1
    rw [if_neg h1, if_neg (show ¬ rdA d ≠ 0 from fun h => h e), hw]
    cases h2 : okQ (sgsM d.L) with
    | false => rfl
    | true =>
      have hb := lst_be h2
      rw [if_neg (show ¬ (true = false) by decide), if_neg (show ¬ ((!true) = true) by decide)]
      unfold tidM
      generalize lstM d (sgsM d.L) = a at l1 l2 hb ⊢
      obtain ⟨da, ea, La⟩ := a
      simp only at l1 l2 hb ⊢
      rcases l1 with rfl | rfl
      · rfl
      · obtain ⟨r1, r2⟩ := l2 rfl
        rw [bsQ_eq La 0 0 hb]
        obtain ⟨b1, -⟩ := dps_in (bsB 0 0 La) da La r1 r2
        generalize dpsM da (La.take (bsB 0 0 La)) = b at b1 ⊢
        obtain ⟨db, eb⟩ := b
        simp only at b1 ⊢
        rcases b1 with rfl | rfl
        · rfl
        · rfl
end Go.Proofs.Ytpblcahcpobicaa

/- The document's journal: wrong, sealed. -/
namespace Go.Proofs.Ytpblcahcpobicaa
open Go.RowKit Go.Lib Go.Maps
set_option linter.unusedSimpArgs false
set_option linter.unusedVariables false
set_option maxRecDepth 100000
attribute [local go_sem ↓] Go.wp_at_zero Go.wp_at_succ


/-- The document's journal's cells: its disk, its parts, whether it is over. -/
def qjC (Y : Nat) (lv : Value) (ov : Bool) : List Value := [.pointer (some ⟨Y, 0, none⟩), lv, .bool ov]
theorem qd_setJ {w : World} {Y J i : Nat} {G : Nat → Prop} {d : Dk} (h : QD w Y G d) (hJ : ¬ G J) (u : Value) : QD (w.setCell ⟨J, i, none⟩ u) Y G d :=
  h.keep (fun k hG _ => Below.heap_setCell _ _ _ _ (fun e => hJ (by have e : k = J := e; rw [← e]; exact hG))) (fun _ _ h => h)

abbrev RdPt (w : World) (L : List SgT) (v : Value) : Prop := RdK (fun _ => True) w 6 (rPt (fun _ => True) w) L v
theorem RdPt.on {w w' : World} {L : List SgT} {v : Value} (h : RdPt w L v) (hb : Below w.heap.size w w') : RdPt w' L v := RdK.stay kp_Pt h (fun b _ hlt => ⟨trivial, hb.block b hlt⟩)
theorem own_rdPt {w : World} {b : Nat} {L : List SgT} {v : Value} (h : OwnK w b 81 6 rPt v L) : RdPt w L v := RdK.stay kp_Pt (h.rd kp_Pt) (fun b _ _ => ⟨trivial, rfl⟩)
/-- A part's cells, in a row of them. -/
theorem RdPt.at {w : World} {L : List SgT} {a : Option Addr} {k c : Nat} (h : RdPt w L (.slice a k c)) {i : Nat} (hi : i < L.length) : ∃ b off ra rc, a = some ⟨b, off, none⟩ ∧ b < w.heap.size ∧
    w.cell? ⟨b, off + i * 6, none⟩ = some (.int .i64 (L[i]).1) ∧ w.cell? ⟨b, off + i * 6 + 1, none⟩ = some (.int .i64 ((L[i]).2.1 : Int)) ∧ w.cell? ⟨b, off + i * 6 + 2, none⟩ = some (.slice ra (L[i]).2.2.recs.length rc) ∧
    w.cell? ⟨b, off + i * 6 + 3, none⟩ = some (.bool (L[i]).2.2.torn) ∧ w.cell? ⟨b, off + i * 6 + 4, none⟩ = some (.bool (L[i]).2.2.begun) ∧ w.cell? ⟨b, off + i * 6 + 5, none⟩ = some (.bool (L[i]).2.2.ended) ∧
    RdK (fun _ => True) w 1 (rBy (fun _ => True) w) (L[i]).2.2.recs (.slice ra (L[i]).2.2.recs.length rc) := by
  obtain ⟨a', cap, e, _, _, hcell⟩ := h
  simp only [Value.slice.injEq] at e
  obtain ⟨rfl, _, rfl⟩ := e
  obtain ⟨b, off, cs, h1, _, h2, _, ⟨rv, h3, h4⟩, h5⟩ := hcell i hi
  obtain ⟨ra, rc, rfl, _, _⟩ := id h4.form
  subst h3
  exact ⟨b, off, ra, rc, h1, h2, h5 0 _ rfl, h5 1 _ rfl, h5 2 _ rfl, h5 3 _ rfl, h5 4 _ rfl, h5 5 _ rfl, h4⟩
def RrOut (w w' : World) (L : List SgT) (e : Ending) : Prop := ∃ v, e = .returned v ∧ RdBs w' (opR L) v ∧ Below w.heap.size w w'
set_option maxHeartbeats 8000000 in
theorem qjrecs_any {w : World} {J Y : Nat} {lv : Value} {ov : Bool} {L : List SgT} (hB : Bn w J (qjC Y lv ov)) (h : RdPt w L lv) (hl : L.length ≤ 100000) (hrc : (opR L).length ≤ 1000000) :
    Calls Try.prog 25 #[.pointer (some ⟨J, 0, none⟩)] w fun e w' => RrOut w w' L e := by
  obtain ⟨c1, _⟩ := hB 1 _ rfl
  have hJl := hB.lt
  obtain ⟨a4, c4, rfl, hlc, hcm⟩ := id h.form
  unfold maxLen at hcm
  obtain ⟨ib, hi, hi0, hi1, hi2⟩ := inf_getJ inf_bytes
  obtain ⟨N, hN⟩ : ∃ k, L.length = k := ⟨_, rfl⟩
  have HN := hideD hN
  have HR4 := hideD h
  have HRC := hideD hrc
  rw [hN] at hlc hl c1
  have HI := hideD (show ∃ cs : List Value, w.ownsRow w.heap.size 41 1 (.slice none 0 0) cs.length cs ∧ RdCs w cs (opR (L.take 0)) ∧ Below w.heap.size w w from ⟨[], World.ownsRow_nil _ _ _ _, ⟨rfl, fun i hi => absurd hi (by simp [opR])⟩, Below.refl _ _⟩)
  clear hN h hrc hB
  go_enter Try.func25, Try.ntmps25
  go_wp2
  go_loopw [3, 10] (fun rc ix wr => ∃ (k : Nat), k ≤ N ∧ ix = .int .i64 (k : Int) ∧ Hid (∃ cs : List Value, wr.ownsRow w.heap.size 41 1 rc cs.length cs ∧ RdCs w cs (opR (L.take k)) ∧ Below w.heap.size w wr)) (fun _ ix _ => N - (RowKit.intOf ix).toNat)
  case atStart => exact ⟨0, Nat.zero_le _, rfl, HI⟩
  case round =>
    clear HI
    obtain ⟨k, hk, rfl, HI⟩ := hrel
    obtain ⟨cs, hO, hC, hB⟩ := HI.out
    clear HI
    obtain ⟨oa, oc, rfl, _, _⟩ := ownf_formJ hO
    have d1 := (hB.cell (p := ⟨J, 1, none⟩) hJl).trans c1
    by_cases hlt : k < N
    · have hkl : k < L.length := by rw [HN.out]; exact hlt
      obtain ⟨g, off, ra, rc, rfl, hg4, -, -, k2', -, -, -, hrk⟩ := RdPt.at HR4.out hkl
      have c2 := (hB.cell (p := ⟨g, off + k * 6 + 2, none⟩) hg4).trans k2'
      obtain ⟨cr, hcr, hsrc⟩ := rdk_cells hrk
      have htk := opR_take hkl
      have hle := opR_le L (k + 1)
      rw [htk, List.length_append] at hle
      have hrl := HRC.out
      have hcl := hC.1
      have hcrl := hcr.1
      have hC2 := hC.app hcr
      rw [← htk] at hC2
      obtain ⟨y, hy⟩ : ∃ y, L[k] = y := ⟨_, rfl⟩
      rw [hy] at c2 hcrl hle hsrc
      obtain ⟨rl, hrl2⟩ : ∃ k, y.2.2.recs.length = k := ⟨_, rfl⟩
      obtain ⟨cl, hcl2⟩ : ∃ k, cs.length = k := ⟨_, rfl⟩
      rw [hrl2] at c2 hcrl hle hsrc
      rw [hcl2] at hO hcl ⊢
      have k1 : (k : Int) < (N : Int) := by omega
      have k2 : (0 : Int) ≤ (k : Int) := by omega
      have hlim : cl + rl ≤ 1000000 := by omega
      have hsr := hsrc _ hB
      have hBw := hB.size
      have HK := hideD (And.intro hcl2 (And.intro hcrl (And.intro hC2 (And.intro hO (And.intro hB hsr)))))
      clear hO hB hsr hsrc hC2 hcl2 hcrl hcl hle hrl htk hcr hrk k2' hC hg4 hy hrl2
      go_wp2_with (first
        | (at_builtin; refine wpList_append_at _ rfl _ _ 30 30 rfl w.heap.size 41 ib (.slice none 0 0) 1 24 Try.underlying30 hi hi0 hi1 hi2 rfl (.slice oa cl oc) cl cs rfl HK.out.2.2.2.1 _ rl cr rfl HK.out.2.2.2.2.2 rl (.inr (by omega)) (Nat.le_refl _) (by unfold maxLen; omega) hBw ?_; intro vb wb hOb hgb hat; have HZ := hideD (And.intro hOb (HK.out.2.2.2.2.1.grown hgb hBw (fun k hk => (ownsRow_lt HK.out.2.2.2.1 k hk).1))); clear hOb hgb hat)
        | fail)
      go_roundw
      case rel =>
        obtain ⟨t1, t2, t3, t4, t5, t6⟩ := HK.out
        refine ⟨k + 1, hlt, by go_num, hideD ⟨cs ++ cr, ?_, t3, HZ.out.2⟩⟩
        rw [List.length_append, t1, t2]
        exact HZ.out.1
      case measure => simp [RowKit.intOf]; omega
    · have k1 : ¬ (k : Int) < (N : Int) := by omega
      have hkN : L.take k = L := List.take_of_length_le (by rw [HN.out]; omega)
      rw [hkN] at hC
      have hbs := rdCs_bs hO (hC.on hB)
      have HF := hideD (And.intro hbs hB)
      clear hbs hB hC hO hkN
      go_wp2
      go_ret
      exact ⟨_, rfl, HF.out.1, HF.out.2⟩
end Go.Proofs.Ytpblcahcpobicaa
