import Derived.Test.YtccmmkhcacglhaaGreatDoorWkb05
import Derived.Deep.LoopGhost
import Derived.Test.YtccmmkhcacglhaaGreatDoorWkb03

/- What the program's Strip does. -/
namespace Go.Proofs.YtccmmkhcacglhaaGreatDoor
open Go.RowKit Go.Lib
set_option linter.unusedSimpArgs false
set_option linter.unusedVariables false
attribute [local go_sem ↓] Go.wp_at_zero Go.wp_at_succ

theorem Tryz.infoPS : (Tryz.prog.info? 93).map (fun i => (i.zero, i.size, i.bytes)) = some (some (.pointer none), 1, 8) := by kernel_rfl
theorem cstr_res {w4 : World} {R : Nat} {a b c d e f : Value} {tmps : Array Value} (hR : Bn w4 R [a, b, c, d, e, f]) (ht : tmps.getD 2 undef = .pointer (some ⟨R, 0, none⟩)) : (results Tryz.f18 tmps).run Tryz.prog w4 = .ok (.agg #[a, b, c, d, e, f]) w4 := by
  have ht' : tmps[2]?.getD undef = .pointer (some ⟨R, 0, none⟩) := by simpa using ht
  have c0 := (hR 0 _ rfl).1
  have c1 := (hR 1 _ rfl).1
  have c2 := (hR 2 _ rfl).1
  have c3 := (hR 3 _ rfl).1
  have c4 := (hR 4 _ rfl).1
  have c5 := (hR 5 _ rfl).1
  simp [results, Tryz.results18, go_sem, ht', c0, c1, c2, c3, c4, c5]
theorem own_formP {w : World} {base e size : Nat} {v : Value} {n : Nat} {xs : List Value} (h : w.ownsRow base e size v n xs) : ∃ a cap, v = .slice a n cap ∧ n ≤ cap ∧ cap ≤ maxLen := by
  rcases h.2 with ⟨h1, h2⟩ | ⟨g, cap, cur, h1, _, _, h3, h4, _⟩
  · exact ⟨none, 0, by rw [h1, h2], by omega, by simp [maxLen]⟩
  · exact ⟨_, _, h1, h3, h4⟩
def stG (d : Nat) (c : ChG d) : ChG d := ((c.1.1, (0, 0)), c.2.1, c.2.2.1.map spV, c.2.2.2.map (stS d))
theorem last_ofP {α : Type} {l : List α} (h : l ≠ []) : ∃ l' x, l = l' ++ [x] := ⟨l.dropLast, l.getLast h, (List.dropLast_concat_getLast h).symm⟩
structure ChOk (d : Nat) (c : ChG d) : Prop where
  nm : c.1.1.length ≤ 140737488351232
  vl : c.2.2.1.length ≤ 100000
  vn : ∀ x ∈ c.2.2.1, x.1.length ≤ 140737488351232
  fo : FoOk ⟨d, c.2.2.2⟩
  sz : szL d c.2.2.2 ≤ 1000000
/-- What there is when all is stripped. -/
def RStr (N d : Nat) (c : ChG d) (nm : ByteArray) (vn : Int) (u1 : Option Addr) (n u3 : Nat) (w' : World) : Prop :=
  (∀ j u, [.string nm, .int .i64 vn, .int .i64 0, .int .i64 0, .slice u1 n u3][j]? = some u → w'.cell? ⟨N, j, none⟩ = some u) ∧ (∃ s5, w'.cell? ⟨N, 5, none⟩ = some s5 ∧ RdSp (N + 2) w' ⟨d, c.2.2.2⟩ s5) ∧ RdK (fun b => N + 2 ≤ b) w' 4 (rVar (fun b => N + 2 ≤ b) w') (c.2.2.1.map spV) (.slice u1 n u3) ∧ Bn w' (N + 1) [.string ⟨#[]⟩, .int .i64 0, .int .i64 0, .int .i64 0, .slice none 0 0, .slice none 0 0]
theorem strip_start {N d : Nat} {c : ChG d} {nm : ByteArray} {vn : Int} {u1 : Option Addr} {n u3 : Nat} {w7 : World} {s5 : Value} (hX : Bn w7 N [.string nm, .int .i64 vn, .int .i64 0, .int .i64 0, .slice u1 n u3, s5]) (hR : Bn w7 (N + 1) [.string ⟨#[]⟩, .int .i64 0, .int .i64 0, .int .i64 0, .slice none 0 0, .slice none 0 0]) (hr : RdK (fun b => N + 2 ≤ b) w7 4 (rVar (fun b => N + 2 ≤ b) w7) (c.2.2.1.map spV) (.slice u1 n u3)) (hs : RdK (fun b => b < N) w7 11 (rSt d (fun b => b < N) w7) c.2.2.2 s5) (hf : FoOk ⟨d, c.2.2.2⟩) (hN : N + 2 ≤ w7.heap.size) :
    PInv N (RStr N d c nm vn u1 n u3) (fun b => b = w7.heap.size) (w7.alloc (.cells #[.pointer (some ⟨N, 5, none⟩)] 93)) (.slice (some ⟨w7.heap.size, 0, none⟩) 1 1) [((N, 5), ⟨d, c.2.2.2⟩)] := by
  have hal := (Below.refl w7.heap.size w7).alloc (Nat.le_refl _) (.cells #[.pointer (some ⟨N, 5, none⟩)] 93)
  have hX8 := hX.on hal
  have hR8 := hR.on hal
  have hsz : (w7.alloc (.cells #[.pointer (some ⟨N, 5, none⟩)] 93)).heap.size = w7.heap.size + 1 := by simp
  have hrow := World.ownsRow_lit (e := 93) (base := N) (size := 1) w7 #[.pointer (some ⟨N, 5, none⟩)] 1 (by omega) (by simp [maxLen]) (by simp)
  have hr8 := hr.stay kp_var (ok' := fun b => N + 2 ≤ b ∧ b < w7.heap.size) (w' := w7.alloc (.cells #[.pointer (some ⟨N, 5, none⟩)] 93)) (fun b hb hl => ⟨⟨hb, hl⟩, hal.block b hl⟩)
  have hs8 := hs.stay (kp_st d) (ok' := fun b => b < N) (w' := w7.alloc (.cells #[.pointer (some ⟨N, 5, none⟩)] 93)) (fun b hb hl => ⟨hb, hal.block b hl⟩)
  generalize w7.alloc (.cells #[.pointer (some ⟨N, 5, none⟩)] 93) = w8 at *
  refine ⟨by simpa [pdV, pdA] using hrow, fun p hp => ?_, List.pairwise_singleton _ _, fun w' hA hrd => ?_, fun b hb => ?_, fun g hg => ?_, by omega⟩
  · have : p = ((N, 5), ⟨d, c.2.2.2⟩) := by simpa using hp
    subst this
    obtain ⟨c5, f5⟩ := hX8 5 _ rfl
    exact ⟨Nat.le_refl _, by show N < _; omega, f5, by show ¬ N = _; omega, hf, s5, c5, hs8⟩
  · obtain ⟨v, h1, h2⟩ := hrd _ List.mem_cons_self
    refine ⟨fun j u hu => ?_, ⟨v, h1, h2⟩, hr8.stay kp_var (fun b hb hl => ⟨hb.1, hA.block b hl (by show ¬ b = _; omega) (fun p hp => by
      have : p = ((N, 5), ⟨d, c.2.2.2⟩) := by simpa using hp
      subst this
      show N ≠ b
      omega)⟩), hR8.blk (hA.block _ (by omega) (by show ¬ N + 1 = _; omega) (fun p hp => by
      have : p = ((N, 5), ⟨d, c.2.2.2⟩) := by simpa using hp
      subst this
      show N ≠ N + 1
      omega))⟩
    have hj : j < 5 := (List.getElem?_eq_some_iff.1 hu).1
    rw [hA.cell N j (by omega) (by show ¬ N = _; omega) (fun p hp => by
      have : p = ((N, 5), ⟨d, c.2.2.2⟩) := by simpa using hp
      subst this
      intro e
      have : 5 = j := congrArg Prod.snd e
      omega)]
    refine (hX8 j u ?_).1
    match j, hj with
    | 0, _ => exact hu
    | 1, _ => exact hu
    | 2, _ => exact hu
    | 3, _ => exact hu
    | 4, _ => exact hu
  · have : b = w7.heap.size := hb
    omega
  · simp only [Value.ownBlock, Option.some.injEq] at hg
    exact hg.symm
set_option maxRecDepth 100000 in
set_option maxHeartbeats 16000000 in
theorem strip_any {ok : Nat → Prop} {w : World} {d : Nat} {c : ChG d} {v : Value} (h : RdC ok w d c v) (hok : ChOk d c) :
    Calls Tryz.prog 18 #[v] w fun e w' => ∃ u, e = .returned u ∧ RdC (fun b => w.heap.size ≤ b) w' d (stG d c) u ∧ Below w.heap.size w w' := by
  obtain ⟨ip, hip, hip0, hip1, hip2⟩ := info_parts Tryz.infoPS
  obtain ⟨sv, ss, rfl, hv, hs⟩ := h
  obtain ⟨a, cap, rfl, hlc, hcm⟩ := hv.form
  obtain ⟨p4, p6, rfl, _⟩ := hs.form
  have HV := mkHid hv
  have HS := mkHid hs
  obtain ⟨nm, hnm⟩ : ∃ nv : ByteArray, ⟨c.1.1.toArray⟩ = nv := ⟨_, rfl⟩
  have hz1 : nm.size ≤ 140737488351232 := by rw [← hnm]; show c.1.1.toArray.size ≤ _; simpa using hok.nm
  obtain ⟨n, hn⟩ : ∃ n, c.2.2.1.length = n := ⟨_, rfl⟩
  obtain ⟨i, hi⟩ : ∃ n, c.2.2.2.length = n := ⟨_, rfl⟩
  obtain ⟨vn, hvn⟩ : ∃ x, c.2.1 = x := ⟨_, rfl⟩
  obtain ⟨ln, hln⟩ : ∃ x, c.1.2.1 = x := ⟨_, rfl⟩
  obtain ⟨co, hco⟩ : ∃ x, c.1.2.2 = x := ⟨_, rfl⟩
  rw [show sV c.1.1 = .string nm from by unfold sV; rw [hnm], hvn, hln, hco, hi, hn]
  rw [hi] at HS
  rw [hn] at HV
  have HOK := mkHid hok
  have HN : Hid (c.2.2.1.length = n) := hn
  have HE : Hid (∀ (w' : World) (u1 : Option Addr) (u3 : Nat) (s5 : Value), RdK (fun b => w.heap.size ≤ b) w' 4 (rVar (fun b => w.heap.size ≤ b) w') (c.2.2.1.map spV) (.slice u1 n u3) → RdSp w.heap.size w' ⟨d, c.2.2.2⟩ s5 → RdC (fun b => w.heap.size ≤ b) w' d (stG d c) (.agg #[.string nm, .int .i64 vn, .int .i64 0, .int .i64 0, .slice u1 n u3, s5])) := by
    intro w' u1 u3 s5 h1 h2
    refine ⟨_, _, ?_, h1, h2⟩
    show _ = Value.agg #[sV c.1.1, .int .i64 c.2.1, .int .i64 0, .int .i64 0, _, _]
    rw [show sV c.1.1 = .string nm from by unfold sV; rw [hnm], hvn]
  clear hv hs hok hnm hn hi hvn hln hco hcm hlc
  have g1 := fun w1 => pClone_any nm w1 hz1
  have hal : Below w.heap.size w ((w.alloc (.cells #[.string nm, .int .i64 vn, .int .i64 ln, .int .i64 co, .slice a n cap, .slice p4 i p6] 28)).alloc (.cells #[.string ⟨#[]⟩, .int .i64 0, .int .i64 0, .int .i64 0, .slice none 0 0, .slice none 0 0] 28)) := ((Below.refl w.heap.size w).alloc (Nat.le_refl _) _).alloc (by simp) _
  have hX : Bn ((w.alloc (.cells #[.string nm, .int .i64 vn, .int .i64 ln, .int .i64 co, .slice a n cap, .slice p4 i p6] 28)).alloc (.cells #[.string ⟨#[]⟩, .int .i64 0, .int .i64 0, .int .i64 0, .slice none 0 0, .slice none 0 0] 28)) w.heap.size [.string nm, .int .i64 vn, .int .i64 ln, .int .i64 co, .slice a n cap, .slice p4 i p6] := (Bn.new w [.string nm, .int .i64 vn, .int .i64 ln, .int .i64 co, .slice a n cap, .slice p4 i p6] 28 _ rfl).on ((Below.refl _ _).alloc (Nat.le_refl _) _)
  have hR : Bn ((w.alloc (.cells #[.string nm, .int .i64 vn, .int .i64 ln, .int .i64 co, .slice a n cap, .slice p4 i p6] 28)).alloc (.cells #[.string ⟨#[]⟩, .int .i64 0, .int .i64 0, .int .i64 0, .slice none 0 0, .slice none 0 0] 28)) (w.heap.size + 1) [.string ⟨#[]⟩, .int .i64 0, .int .i64 0, .int .i64 0, .slice none 0 0, .slice none 0 0] := Bn.new (w.alloc (.cells #[.string nm, .int .i64 vn, .int .i64 ln, .int .i64 co, .slice a n cap, .slice p4 i p6] 28)) [.string ⟨#[]⟩, .int .i64 0, .int .i64 0, .int .i64 0, .slice none 0 0, .slice none 0 0] 28 _ (by simp)
  have hsz : w.heap.size + 2 ≤ ((w.alloc (.cells #[.string nm, .int .i64 vn, .int .i64 ln, .int .i64 co, .slice a n cap, .slice p4 i p6] 28)).alloc (.cells #[.string ⟨#[]⟩, .int .i64 0, .int .i64 0, .int .i64 0, .slice none 0 0, .slice none 0 0] 28)).heap.size := by simp
  go_enter Tryz.func18, Tryz.ntmps18
  go_upto_region 1 with fail
  generalize ((w.alloc (.cells #[.string nm, .int .i64 vn, .int .i64 ln, .int .i64 co, .slice a n cap, .slice p4 i p6] 28)).alloc (.cells #[.string ⟨#[]⟩, .int .i64 0, .int .i64 0, .int .i64 0, .slice none 0 0, .slice none 0 0] 28)) = wx at *
  obtain ⟨c0, e0⟩ := hX 0 _ rfl
  go_upto_region 2 with (first
    | (go_at_call 46; refine (g1 _).mono ?_; rintro e w1 ⟨rfl, b1⟩; have hX1 := hX.on b1; obtain ⟨x0, y0⟩ := hX1 0 _ rfl))
  have hX2 := hX1.set (i := 0) (by simp) (.string nm)
  have hR2 := (hR.on b1).far (X := w.heap.size) (i := 0) (by omega) (.string nm)
  have hB2 : Below w.heap.size w (w1.setCell ⟨w.heap.size, 0, none⟩ (.string nm)) := (hal.trans (b1.mono (by omega))).setCell (Nat.le_refl _) _
  have hs2 : w.heap.size + 2 ≤ (w1.setCell ⟨w.heap.size, 0, none⟩ (.string nm)).heap.size := by simpa using Nat.le_trans hsz b1.size
  clear hX hR hX1 x0 y0 c0 e0 b1 hal hsz g1
  generalize w1.setCell ⟨w.heap.size, 0, none⟩ (.string nm) = w2 at *
  obtain ⟨a1, q1⟩ := hX2 2 _ rfl
  obtain ⟨a2, q2⟩ := hX2 3 _ rfl
  go_upto_region 3 with fail
  have hX3 := (hX2.set (i := 2) (by simp) (.int .i64 0)).set (i := 3) (by simp) (.int .i64 0)
  have hR3 := (hR2.far (X := w.heap.size) (i := 2) (by omega) (.int .i64 0)).far (X := w.heap.size) (i := 3) (by omega) (.int .i64 0)
  have hB3 : Below w.heap.size w ((w2.setCell ⟨w.heap.size, 2, none⟩ (.int .i64 0)).setCell ⟨w.heap.size, 3, none⟩ (.int .i64 0)) := (hB2.setCell (p := ⟨w.heap.size, 2, none⟩) (Nat.le_refl _) _).setCell (p := ⟨w.heap.size, 3, none⟩) (Nat.le_refl _) _
  have hs3 : w.heap.size + 2 ≤ ((w2.setCell ⟨w.heap.size, 2, none⟩ (.int .i64 0)).setCell ⟨w.heap.size, 3, none⟩ (.int .i64 0)).heap.size := by simpa using hs2
  clear hX2 hR2 hB2 hs2 a1 q1 a2 q2
  generalize (w2.setCell ⟨w.heap.size, 2, none⟩ (.int .i64 0)).setCell ⟨w.heap.size, 3, none⟩ (.int .i64 0) = w3 at *
  have hE : Calls Tryz.prog 47 #[.slice a n cap, .func (.func 48) #[] #[]] w3 fun e w' => ∃ u1 u3, e = .returned (.slice u1 n u3) ∧ RdK (fun b => w3.heap.size ≤ b) w' 4 (rVar (fun b => w3.heap.size ≤ b) w') (c.2.2.1.map spV) (.slice u1 n u3) ∧ Below w3.heap.size w3 w' := by
    refine (eachVar_any (HV.out.stay kp_var (ok' := ok) (w' := w3) (fun b hb hl => ⟨hb, hB3.block b hl⟩)) HOK.out.vl HOK.out.vn).mono ?_
    rintro e w' ⟨u, h1, h2, h3⟩
    obtain ⟨u1, u3, rfl, _⟩ := h2.form
    rw [List.length_map, HN.out] at h1 h2
    exact ⟨u1, u3, h1, h2, h3⟩
  obtain ⟨c4, e4⟩ := hX3 4 _ rfl
  go_upto_region 4 with (first
    | (go_at_call 47; refine hE.mono ?_; rintro e w4 ⟨u1, u3, rfl, hr, b4⟩; have hX4 := hX3.on b4; obtain ⟨x4, y4⟩ := hX4 4 _ rfl))
  have hX5 : Bn (w4.setCell ⟨w.heap.size, 4, none⟩ (.slice u1 n u3)) w.heap.size [.string nm, .int .i64 vn, .int .i64 0, .int .i64 0, .slice u1 n u3, .slice p4 i p6] := hX4.set (i := 4) (by simp) (.slice u1 n u3)
  have hR5 := (hR3.on b4).far (X := w.heap.size) (i := 4) (by omega) (.slice u1 n u3)
  have hB5 : Below w.heap.size w (w4.setCell ⟨w.heap.size, 4, none⟩ (.slice u1 n u3)) := (hB3.trans (b4.mono (by omega))).setCell (Nat.le_refl _) _
  have hs5 : w.heap.size + 2 ≤ (w4.setCell ⟨w.heap.size, 4, none⟩ (.slice u1 n u3)).heap.size := by simpa using Nat.le_trans hs3 b4.size
  have hr5 := hr.stay kp_var (ok' := fun b => w.heap.size + 2 ≤ b) (w' := w4.setCell ⟨w.heap.size, 4, none⟩ (.slice u1 n u3)) (fun b hb hl => ⟨by omega, Below.heap_setCell _ _ _ _ (fun e => by have e2 : b = w.heap.size := e; omega)⟩)
  clear hX3 hR3 hX4 x4 y4 c4 e4 b4 hB3 hs3 hr hE
  generalize w4.setCell ⟨w.heap.size, 4, none⟩ (.slice u1 n u3) = w5 at *
  have hst := strip_start (c := c) hX5 hR5 hr5 (HS.out.stay (kp_st d) (ok' := fun b => b < w.heap.size) (w' := w5) (fun b hb hl => ⟨hl, hB5.block b hl⟩)) HOK.out.fo hs5
  have hb6 : Below w.heap.size w (w5.alloc (.cells #[.pointer (some ⟨w.heap.size, 5, none⟩)] 93)) := hB5.alloc (by omega) _
  have HST := mkHid hst
  clear hst hX5 hR5 hr5 hB5 hs5 HV HS
  go_wp2
  go_loopg [3] 1000000 (fun gn v wr => ∃ (P : List Pd) (X : Nat → Prop), Hid (PInv w.heap.size (RStr w.heap.size d c nm vn u1 n u3) X wr v P) ∧ Hid ((P.map szF).sum ≤ gn ∧ gn ≤ 1000000) ∧ Below w.heap.size w wr)
  case atStart =>
    refine ⟨_, _, HST, ⟨?_, Nat.le_refl _⟩, hb6⟩
    show szL d c.2.2.2 + 0 ≤ 1000000
    have := HOK.out.sz
    omega
  case round =>
    obtain ⟨P, X, hI, hM, hb⟩ := hrel
    by_cases he : P = []
    · subst he
      obtain ⟨ra, rc, rfl⟩ := rowV_nil hI.out.row
      obtain ⟨hc5, ⟨s5, hs5, hrs⟩, hrv, hRb⟩ := hI.out.wnd.end
      obtain ⟨y1, y3, hy, _⟩ := hrs.form
      rw [List.length_map] at hy
      subst hy
      obtain ⟨y2, hy2⟩ : ∃ y2, c.2.2.2.length = y2 := ⟨_, rfl⟩
      simp only [hy2] at hs5 hrs
      have k0 := hc5 0 _ rfl
      have k1 := hc5 1 _ rfl
      have k2 := hc5 2 _ rfl
      have k3 := hc5 3 _ rfl
      have k4 := hc5 4 _ rfl
      have hfin := HE.out (putL wr (w.heap.size + 1) 0 [.string nm, .int .i64 vn, .int .i64 0, .int .i64 0, .slice u1 n u3, .slice y1 y2 y3]) u1 u3 (.slice y1 y2 y3) (hrv.stay kp_var (fun b hb hl => ⟨by omega, putL_heap _ _ _ _ _ (by omega)⟩)) (hrs.stay (kp_st d) (fun b hb hl => ⟨by omega, putL_heap _ _ _ _ _ (by omega)⟩))
      have hbz := putL_below [.string nm, .int .i64 vn, .int .i64 0, .int .i64 0, .slice u1 n u3, .slice y1 y2 y3] wr (w.heap.size + 1) 0 hb (by omega)
      obtain ⟨r0, f0⟩ := hRb 0 _ rfl
      obtain ⟨r1, f1⟩ := hRb 1 _ rfl
      obtain ⟨r2, f2⟩ := hRb 2 _ rfl
      obtain ⟨r3, f3⟩ := hRb 3 _ rfl
      obtain ⟨r4, f4⟩ := hRb 4 _ rfl
      obtain ⟨r5, f5⟩ := hRb 5 _ rfl
      have hRz := (((((hRb.set (i := 0) (by simp) (.string nm)).set (i := 1) (by simp) (.int .i64 vn)).set (i := 2) (by simp) (.int .i64 0)).set (i := 3) (by simp) (.int .i64 0)).set (i := 4) (by simp) (.slice u1 n u3)).set (i := 5) (by simp) (.slice y1 y2 y3)
      clear hI hM hrs hrv hc5
      go_wp2
      exact bodyPost_ret (cstr_res hRz rfl) rfl ⟨_, rfl, hfin, hbz⟩
    · obtain ⟨P', p, rfl⟩ := last_ofP he
      obtain ⟨dd, l, hI2, hszp⟩ := hI.out.deep
      obtain ⟨pp, hpp⟩ : ∃ x, p.1 = x := ⟨_, rfl⟩
      rw [hpp] at hI2
      obtain ⟨pb, po⟩ := pp
      have hm := hM.out
      rw [List.map_append, List.sum_append, List.map_singleton, List.sum_singleton, hszp] at hm
      have hpl : P'.length ≤ 1000000 := by
        have : P'.length ≤ (P'.map szF).sum := szF_len P'
        omega
      obtain ⟨o1, o2, o3, o4, o5, u0, o6, o7⟩ := hI2.ok _ (List.mem_append_right _ List.mem_cons_self)
      have o1 : w.heap.size ≤ pb := o1
      have o2 : pb < wr.heap.size := o2
      have o3 : wr.frozen? ⟨pb, po, none⟩ = false := o3
      have o6 : wr.cell? ⟨pb, po, none⟩ = some u0 := o6
      obtain ⟨s1, s3, rfl, _⟩ := o7.form
      have hrow := hI2.row
      rw [List.map_append, List.length_append, List.map_singleton, List.length_singleton] at hrow
      obtain ⟨g, cap', rfl, hcap, hcm, hgb, hgl, hcell, hpop⟩ := rowV_pop (by simp) hrow
      have hcell : wr.cell? ⟨g, P'.length, none⟩ = some (.pointer (some ⟨pb, po, none⟩)) := hcell
      have hXg := hI2.x2 g rfl
      have hgp : g ≠ pb := fun e => o4 (e ▸ hXg)
      have hsz2 : w.heap.size + 2 ≤ wr.heap.size := hI2.big
      have hcall : Calls Tryz.prog 49 #[.slice s1 l.length s3, .func (.func 50) #[] #[]] wr fun e w' => e = .returned (.slice (some ⟨wr.heap.size, 0, none⟩) l.length l.length) ∧ Hid (RowG w' wr.heap.size 11 l.length (rHf dd (fun b => b < w.heap.size) wr) l) ∧ Below wr.heap.size wr w' ∧ wr.heap.size < w'.heap.size := eachSt_any o7 o5.1 (fun s hs => (o5.2 s hs).1)
      have hll : l.length ≤ 100000 := o5.1
      have HI2 := mkHid hI2
      have HPOP := mkHid hpop
      have HM2 : Hid ((P'.map szF).sum + szL (dd + 1) l ≤ gk ∧ gk ≤ 1000000) := hm
      obtain ⟨m, hml⟩ : ∃ m, P'.length = m := ⟨_, rfl⟩
      obtain ⟨nl, hnl⟩ : ∃ m, l.length = m := ⟨_, rfl⟩
      rw [hml] at hcell hcap hpl ⊢
      rw [hnl] at hcall hll o6
      have HML : Hid (P'.length = m) := hml
      have HNL : Hid (l.length = nl) := hnl
      clear hI hM hI2 hm hrow hpop he hml hnl o5 o7 hszp hXg
      have i1 : ((m : Int) + 1 > 0) := by omega
      have i3 : (0 : Int) ≤ (m : Int) := by omega
      have i4 : (m : Int) ≤ (cap' : Int) := by omega
      have i5 : (m : Int) < (m : Int) + 1 := by omega
      go_upto_region 8 with (first
        | (go_at_call 49; refine hcall.mono ?_; rintro e w6 ⟨rfl, hu, b6, hG6⟩))
      have G1 := (b6.cell (p := ⟨g, m, none⟩) hgl).trans hcell
      have Q1 := (b6.cell (p := ⟨pb, po, none⟩) o2).trans o6
      have Q2 := (b6.frozen (p := ⟨pb, po, none⟩) o2).trans o3
      go_upto_region 9 with fail
      obtain ⟨w7, hw7⟩ : ∃ x, w6.setCell ⟨pb, po, none⟩ (.slice (some ⟨wr.heap.size, 0, none⟩) nl nl) = x := ⟨_, rfl⟩
      have hs7 : w7.heap.size = w6.heap.size := by rw [← hw7]; simp
      have hb7 : Below w.heap.size w w7 := by rw [← hw7]; exact (hb.trans (b6.mono hb.size)).setCell o1 _
      have hrow7 : w7.ownsRow w.heap.size 93 1 (.slice (some ⟨g, 0, none⟩) m cap') m (P'.map pdV) := by
        have h1 := own_on HPOP.out b6 (Nat.le_refl _)
        rw [HML.out] at h1
        rw [← hw7]
        refine ownsRow_keep h1 (fun g' hg' => ?_)
        have : g = g' := Option.some.inj hg'
        subst this
        exact Below.heap_setCell _ _ _ _ (fun e => hgp e)
      rw [hw7]
      have HW7 := mkHid hw7
      obtain ⟨GB, hGB⟩ : ∃ x, wr.heap.size = x := ⟨_, rfl⟩
      rw [hGB]
      have HGB := mkHid hGB
      have HU := mkHid hu
      clear hw7 hGB hcell o6 o3 G1 Q1 Q2 hcall hu
      have hr0 : Hid (w7.ownsRow w.heap.size 93 1 (.slice (some ⟨g, 0, none⟩) m cap') (m + 0) ((P' ++ (kidC wr.heap.size dd 0 l).take 0).map pdV)) := by
        show w7.ownsRow _ _ _ _ _ _
        rw [List.take_zero, List.append_nil]
        exact hrow7
      have hsw7 : w.heap.size ≤ w7.heap.size := hb7.size
      clear hrow7
      go_wp2
      go_loopw [3, 43] (fun v3 ix wr => ∃ (j : Nat), j ≤ nl ∧ ix = .int .i64 (j : Int) ∧ Hid (wr.ownsRow w.heap.size 93 1 v3 (m + j) ((P' ++ (kidC GB dd 0 l).take j).map pdV)) ∧ Hid (Fr w7 wr (.slice (some ⟨g, 0, none⟩) m cap') v3)) (fun _ ix _ => nl - (RowKit.intOf ix).toNat)
      case atStart => exact ⟨0, Nat.zero_le _, rfl, by rw [← HGB.out]; exact hr0, Fr.of (Below.refl w7.heap.size w7) (Nat.le_refl _) _⟩
      case round =>
        obtain ⟨wo, hwo⟩ : ∃ x, x = wr := ⟨_, rfl⟩
        clear hr0
        obtain ⟨j, hj, rfl, hrj, hfj⟩ := hrel
        obtain ⟨ra, rc, rfl, hrl, hrm⟩ := own_formP hrj.out
        have hws := hfj.out.grown.size
        by_cases hjl : j < nl
        · have i6 : (j : Int) < (nl : Int) := by omega
          have i7 : (0 : Int) ≤ (j : Int) := by omega
          have hjll : j < l.length := by rw [HNL.out]; exact hjl
          have hkj : (kidC GB dd 0 l).take (j + 1) = (kidC GB dd 0 l).take j ++ [((GB, j * 11 + 10), ⟨dd, l[j].2⟩)] := by
            rw [List.take_succ_eq_append_getElem (by rw [kid_len]; exact hjll), kid_get 0 dd l j hjll, Nat.zero_add]
          have hxs : (P' ++ (kidC GB dd 0 l).take (j + 1)).map pdV = (P' ++ (kidC GB dd 0 l).take j).map pdV ++ [(.pointer (some ⟨GB, j * 11 + 10, none⟩))] := by
            rw [hkj, ← List.append_assoc, List.map_append]; rfl
          go_wp2_with (first
            | (at_builtin; refine wpList_append_at _ rfl _ _ 94 94 rfl w.heap.size 93 ip (.pointer none) 1 8 Tryz.underlying94 hip hip0 hip1 hip2 rfl (.slice ra (m + j) rc) (m + j) ((P' ++ (kidC GB dd 0 l).take j).map pdV) rfl (World.ownsRow.alloc hrj.out _) _ 1 [(.pointer (some ⟨GB, j * 11 + 10, none⟩))] rfl (src_row Tryz.underlying94 _ [(.pointer (some ⟨GB, j * 11 + 10, none⟩))] rfl (by simp [Value.oneCell'])) 1 (.inr (by omega)) (Nat.le_refl _) (by unfold maxLen; omega) (by simp; omega) ?_; intro vb wb hown hgr hat)
            | fail)
          have hfr : Hid (Fr w7 wb (.slice (some ⟨g, 0, none⟩) m cap') vb) := by
            have h1 : Fr wr (wr.alloc (.cells #[.pointer (some ⟨GB, j * 11 + 10, none⟩)] 93)) (.slice ra (m + j) rc) (.slice ra (m + j) rc) := Fr.of ((Below.refl wr.heap.size wr).alloc (Nat.le_refl _) _) (Nat.le_refl _) _
            have h2 : Fr (wr.alloc (.cells #[.pointer (some ⟨GB, j * 11 + 10, none⟩)] 93)) wb (.slice ra (m + j) rc) vb := ⟨hgr, fun g' hg' => by
              rcases hat with e | e
              · exact .inl (e ▸ hg')
              · rw [e] at hg'
                have : _ = g' := Option.some.inj hg'
                exact .inr (by omega)⟩
            exact (hfj.out.trans h1).trans h2
          have hown2 : Hid (wb.ownsRow w.heap.size 93 1 vb (m + (j + 1)) ((P' ++ (kidC GB dd 0 l).take (j + 1)).map pdV)) := by
            show wb.ownsRow _ _ _ _ _ _
            rw [hxs]
            exact hown
          clear hown hgr hat hrj hfj hxs hkj
          go_wp2
          go_roundw
          case rel => exact ⟨j + 1, hjl, by go_num, hown2, hfr⟩
          case measure => simp [RowKit.intOf]; omega
        · have i6 : ¬ (j : Int) < (nl : Int) := by omega
          have hjn : j = nl := by omega
          subst hjn
          have hfull : (kidC GB dd 0 l).take j = kidC GB dd 0 l := List.take_of_length_le (by rw [kid_len, HNL.out]; exact Nat.le_refl _)
          have hrf := hrj.out
          rw [hfull] at hrf
          have hF := hfj.out
          have hlen : (P' ++ kidC GB dd 0 l).length = m + j := by rw [List.length_append, kid_len, HML.out, HNL.out]
          have hrf2 : wr.ownsRow w.heap.size 93 1 (.slice ra (m + j) rc) (P' ++ kidC GB dd 0 l).length ((P' ++ kidC GB dd 0 l).map pdV) := by rw [hlen]; exact hrf
          have HU2 := HU.out.out
          rw [← HNL.out] at HU2
          have hpi : PInv w.heap.size (RStr w.heap.size d c nm vn u1 n u3) (fun b => X b ∨ (Value.slice ra (m + j) rc).ownBlock = some b) wr (.slice ra (m + j) rc) (P' ++ kidC GB dd 0 l) := by
            have hs6 : w6.heap.size = w7.heap.size := hs7.symm
            have hst := PInv.step (w2 := wr) (v2 := .slice ra (m + j) rc) (g := g) HI2.out b6 HU2 hG6 rfl (by rw [HGB.out]; exact hrf2) (by rw [HNL.out, HW7.out]; exact hF.grown) (fun g' hg' => by
              rcases hF.lies g' hg' with e | e
              · exact .inl (Option.some.inj e)
              · exact .inr (by omega)) (fun g' hg' => (ownsRow_lt hrf2 g' hg').2)
            rw [HGB.out] at hst
            exact hst
          have hbf : Below w.heap.size w wr := hb7.trans (hF.below hsw7 (fun g' hg' => by have : g = g' := Option.some.inj hg'; omega))
          have hsum := HM2.out
          have hks := kid_sz (G := GB) 0 dd l
          have hsum2 : (((P' ++ kidC GB dd 0 l)).map szF).sum = (P'.map szF).sum + ((kidC GB dd 0 l).map szF).sum := by rw [List.map_append, List.sum_append]
          clear hrj hfj hF hrf hrf2 hfull HU2
          go_wp2
          go_roundg ((P'.map szF).sum + ((kidC GB dd 0 l).map szF).sum)
          case measure => omega
          case rel => exact ⟨P' ++ kidC GB dd 0 l, _, hpi, ⟨by rw [hsum2]; exact Nat.le_refl _, by omega⟩, hbf⟩
end Go.Proofs.YtccmmkhcacglhaaGreatDoor

/- What the program's Same does, where both read one chart. -/
namespace Go.Proofs.YtccmmkhcacglhaaGreatDoor
open Go.RowKit Go.Lib
set_option linter.unusedSimpArgs false
set_option linter.unusedVariables false
attribute [local go_sem ↓] Go.wp_at_zero Go.wp_at_succ

def szQ (x : Pq2) : Nat := szL x.1.1 x.1.2
theorem szQ_len : ∀ P : List Pq2, P.length ≤ (P.map szQ).sum
  | [] => by simp
  | p :: P => by
    have := szQ_len P
    have := szL_pos p.1.1 p.1.2
    show P.length + 1 ≤ szL p.1.1 p.1.2 + (P.map szQ).sum
    omega
theorem two_lit (w : World) (base e : Nat) (u u' : Value) (hb : base ≤ w.heap.size) : Two ((w.alloc (.cells #[u] e)).alloc (.cells #[u'] e)) base e (.slice (some ⟨w.heap.size, 0, none⟩) 1 1) (.slice (some ⟨w.heap.size + 1, 0, none⟩) 1 1) 1 1 [u] [u'] := by
  have h1 := World.ownsRow_lit (e := e) (base := base) (size := 1) w #[u] 1 hb (by simp [maxLen]) (by simp)
  have h2 := World.ownsRow_lit (e := e) (base := base) (size := 1) (w.alloc (.cells #[u] e)) #[u'] 1 (by simp; omega) (by simp [maxLen]) (by simp)
  exact ⟨by simpa using World.ownsRow.alloc h1 _, by simpa using h2, fun g h1 h2 => by simp [Value.ownBlock] at h1 h2; omega⟩
theorem Below.al1 {B : Nat} {w wc : World} (h : Below B w wc) (O : Obj) (hB : B ≤ wc.heap.size := by first | assumption | omega) : Below B w (wc.alloc O) := h.alloc hB O
theorem Below.aft {B : Nat} {w wc w1 : World} (h : Below B w wc) (b : Below B wc w1) : Below B w w1 := h.trans b
set_option maxRecDepth 100000 in
set_option maxHeartbeats 16000000 in
theorem same_any {ok ok' : Nat → Prop} {w : World} {d : Nat} {c : ChG d} {v v' : Value} (h : RdC ok w d c v) (h' : RdC ok' w d c v') (hok : ChOk d c) :
    Calls Tryz.prog 16 #[v, v'] w fun e w' => e = .returned (.bool true) ∧ Below w.heap.size w w' := by
  obtain ⟨ir, hir, hir0, hir1, hir2⟩ := info_parts Tryz.infoRS
  obtain ⟨sv, ss, rfl, hv, hs⟩ := h
  obtain ⟨sv', ss', rfl, hv', hs'⟩ := h'
  obtain ⟨a, cap, rfl, _⟩ := hv.form
  obtain ⟨a', cap', rfl, _⟩ := hv'.form
  obtain ⟨p4, p6, rfl, _⟩ := hs.form
  obtain ⟨q4, q6, rfl, _⟩ := hs'.form
  obtain ⟨nm, hnm⟩ : ∃ nv, sV c.1.1 = .string nv := ⟨_, rfl⟩
  obtain ⟨n, hn⟩ : ∃ n, c.2.2.1.length = n := ⟨_, rfl⟩
  obtain ⟨i, hi⟩ : ∃ n, c.2.2.2.length = n := ⟨_, rfl⟩
  obtain ⟨vn, hvn⟩ : ∃ x, c.2.1 = x := ⟨_, rfl⟩
  obtain ⟨ln, hln⟩ : ∃ x, c.1.2.1 = x := ⟨_, rfl⟩
  obtain ⟨co, hco⟩ : ∃ x, c.1.2.2 = x := ⟨_, rfl⟩
  rw [hnm, hvn, hln, hco, hi, hn]
  rw [hi] at hs hs'
  rw [hn] at hv hv'
  have HV := mkHid hv
  have HV' := mkHid hv'
  have HP0 : Hid (PqOk w.heap.size w (⟨d, c.2.2.2⟩, .slice p4 i p6, .slice q4 i q6)) := ⟨hok.fo, hs.stay (kp_st d) (fun b hb hl => ⟨hl, rfl⟩), hs'.stay (kp_st d) (fun b hb hl => ⟨hl, rfl⟩)⟩
  have HSZ : Hid (szL d c.2.2.2 ≤ 1000000) := hok.sz
  clear hv hv' hs hs' hok hnm hn hi hvn hln hco
  have hal : Below w.heap.size w ((w.alloc (.cells #[.string nm, .int .i64 vn, .int .i64 ln, .int .i64 co, .slice a n cap, .slice p4 i p6] 28)).alloc (.cells #[.string nm, .int .i64 vn, .int .i64 ln, .int .i64 co, .slice a' n cap', .slice q4 i q6] 28)) := ((Below.refl w.heap.size w).alloc (Nat.le_refl _) _).alloc (by simp) _
  have hX : Bn ((w.alloc (.cells #[.string nm, .int .i64 vn, .int .i64 ln, .int .i64 co, .slice a n cap, .slice p4 i p6] 28)).alloc (.cells #[.string nm, .int .i64 vn, .int .i64 ln, .int .i64 co, .slice a' n cap', .slice q4 i q6] 28)) w.heap.size [.string nm, .int .i64 vn, .int .i64 ln, .int .i64 co, .slice a n cap, .slice p4 i p6] := (Bn.new w [.string nm, .int .i64 vn, .int .i64 ln, .int .i64 co, .slice a n cap, .slice p4 i p6] 28 _ rfl).on ((Below.refl _ _).alloc (Nat.le_refl _) _)
  have hY : Bn ((w.alloc (.cells #[.string nm, .int .i64 vn, .int .i64 ln, .int .i64 co, .slice a n cap, .slice p4 i p6] 28)).alloc (.cells #[.string nm, .int .i64 vn, .int .i64 ln, .int .i64 co, .slice a' n cap', .slice q4 i q6] 28)) (w.heap.size + 1) [.string nm, .int .i64 vn, .int .i64 ln, .int .i64 co, .slice a' n cap', .slice q4 i q6] := Bn.new (w.alloc (.cells #[.string nm, .int .i64 vn, .int .i64 ln, .int .i64 co, .slice a n cap, .slice p4 i p6] 28)) [.string nm, .int .i64 vn, .int .i64 ln, .int .i64 co, .slice a' n cap', .slice q4 i q6] 28 _ (by simp)
  go_enter Tryz.func16, Tryz.ntmps16
  go_upto_region 1 with fail
  generalize ((w.alloc (.cells #[.string nm, .int .i64 vn, .int .i64 ln, .int .i64 co, .slice a n cap, .slice p4 i p6] 28)).alloc (.cells #[.string nm, .int .i64 vn, .int .i64 ln, .int .i64 co, .slice a' n cap', .slice q4 i q6] 28)) = wx at *
  have hq := eqVar_any (HV.out.stay kp_var (ok' := ok) (w' := wx) (fun b hb hl => ⟨hb, hal.block b hl⟩)) (HV'.out.stay kp_var (ok' := ok') (w' := wx) (fun b hb hl => ⟨hb, hal.block b hl⟩))
  obtain ⟨x0, _⟩ := hX 0 _ rfl
  obtain ⟨y0, _⟩ := hY 0 _ rfl
  obtain ⟨x1, _⟩ := hX 1 _ rfl
  obtain ⟨y1, _⟩ := hY 1 _ rfl
  obtain ⟨x2, _⟩ := hX 2 _ rfl
  obtain ⟨y2, _⟩ := hY 2 _ rfl
  obtain ⟨x3, _⟩ := hX 3 _ rfl
  obtain ⟨y3, _⟩ := hY 3 _ rfl
  obtain ⟨x4, _⟩ := hX 4 _ rfl
  obtain ⟨y4, _⟩ := hY 4 _ rfl
  obtain ⟨x5, _⟩ := hX 5 _ rfl
  obtain ⟨y5, _⟩ := hY 5 _ rfl
  go_upto_region 3 with (first
    | (go_at_call 42; refine hq.mono ?_; rintro e w1 ⟨rfl, b1⟩))
  have hb1 := hal.trans (b1.mono hal.size)
  obtain ⟨s5, _⟩ := (hX.on b1) 5 _ rfl
  obtain ⟨t5, _⟩ := (hY.on b1) 5 _ rfl
  clear x0 y0 x1 y1 x2 y2 x3 y3 x4 y4 x5 y5 hX hY hal hq b1 HV HV'
  go_cut [5, 6] (fun v5 v6 wc => ∃ T1 T2, v5 = .slice (some ⟨T1, 0, none⟩) 1 1 ∧ v6 = .slice (some ⟨T2, 0, none⟩) 1 1 ∧ Hid (Two wc w.heap.size 26 (.slice (some ⟨T1, 0, none⟩) 1 1) (.slice (some ⟨T2, 0, none⟩) 1 1) 1 1 [.slice p4 i p6] [.slice q4 i q6]) ∧ Below w.heap.size w wc)
  case first =>
    clear HP0 HSZ
    go_region_held_law (fun w' => w'.cell? ⟨w.heap.size, 5, none⟩ = some (.slice p4 i p6) ∧ w'.cell? ⟨w.heap.size + 1, 5, none⟩ = some (.slice q4 i q6))
      ((refine ⟨?_, ?_⟩ <;> (repeat (first | (with_reducible exact s5) | (with_reducible exact t5) | (with_reducible refine cell_al ?_) | (with_reducible refine cell_dr ?_))) <;> done))
      (fail)
    · have hbs := hb1.size
      go_wp2
      go_meet
      case rel => exact ⟨_, _, rfl, rfl, two_lit w1.drew w.heap.size 26 _ _ hbs, (hb1.drew.alloc hbs _).alloc (by simp; omega) _⟩
    · have hbs := hb1.size
      go_wp2
      go_meet
      case rel => exact ⟨_, _, rfl, rfl, (two_lit w1.drew w.heap.size 26 _ _ hbs).symm, (hb1.drew.alloc hbs _).alloc (by simp; omega) _⟩
  case rest =>
    obtain ⟨T1, T2, rfl, rfl, hT0, hb0⟩ := hcut
    clear hb1 s5 t5
    obtain ⟨wk, hwk⟩ : ∃ x, x = wc := ⟨_, rfl⟩
    subst hwk
    go_wp2
    go_loopg [5, 6] 1000000 (fun gn p q wr => ∃ (ps : List Pq2), Hid (Two wr w.heap.size 26 p q ps.length ps.length (ps.map (fun x => x.2.1)) (ps.map (fun x => x.2.2))) ∧ Hid (∀ x ∈ ps, PqOk w.heap.size w x) ∧ Hid ((ps.map szQ).sum ≤ gn ∧ gn ≤ 1000000) ∧ Below w.heap.size w wr)
    case atStart =>
      refine ⟨[(⟨d, c.2.2.2⟩, .slice p4 i p6, .slice q4 i q6)], hT0, fun x hx => ?_, ⟨?_, Nat.le_refl _⟩, hb0⟩
      · have : x = (⟨d, c.2.2.2⟩, .slice p4 i p6, .slice q4 i q6) := by simpa using hx
        subst this
        exact HP0.out
      · show szL d c.2.2.2 + 0 ≤ 1000000
        have := HSZ.out
        omega
    case round =>
      clear hT0 hb0 HP0 HSZ
      obtain ⟨ps, hT, hK, hM, hb⟩ := hrel
      by_cases he : ps = []
      · subst he
        obtain ⟨ra, rc, rfl⟩ := rowV_nil hT.out.a
        go_wp2
        go_ret
        exact ⟨rfl, hb⟩
      obtain ⟨ps', x, rfl⟩ := last_ofP he
      obtain ⟨dd, l, hx, hxs⟩ := pq_deep (hK.out x (by simp))
      have hm := hM.out
      rw [List.map_append, List.sum_append, List.map_singleton, List.sum_singleton, show szQ x = szL (dd + 1) l from hxs] at hm
      obtain ⟨x1, x2, x3⟩ := x
      obtain ⟨hf, hr, hr'⟩ := hx
      replace hr : RdK (fun b => b < w.heap.size) w 11 (rSt (dd + 1) (fun b => b < w.heap.size) w) l x2 := hr
      replace hr' : RdK (fun b => b < w.heap.size) w 11 (rSt (dd + 1) (fun b => b < w.heap.size) w) l x3 := hr'
      obtain ⟨s1, s3, rfl, hs3, hs3m⟩ := hr.form
      obtain ⟨t1, t3, rfl, ht3, ht3m⟩ := hr'.form
      have hTT := hT.out
      rw [List.length_append, List.length_singleton, List.map_append, List.map_append] at hTT
      obtain ⟨g, gc, g', gc', rfl, rfl, k1, k2, k3, k4, k5, k6, k7, k8, hP⟩ := Two.pop (n := ps'.length) (by simp) (by simp) hTT
      have hpl : ps'.length ≤ 1000000 := by
        have := szQ_len ps'
        omega
      obtain ⟨m, hml⟩ : ∃ m, ps'.length = m := ⟨_, rfl⟩
      obtain ⟨nl, hnl⟩ : ∃ m, l.length = m := ⟨_, rfl⟩
      rw [hml] at k1 k3 k7 k8 hP hpl ⊢
      rw [hnl] at k7 k8 hs3 ht3
      have hcall : ∀ w1, Below w.heap.size w w1 → Calls Tryz.prog 43 #[.slice s1 nl s3, .slice t1 nl t3, .func (.func 44) #[] #[]] w1 fun e w' => e = .returned (.bool true) ∧ Below w1.heap.size w1 w' := fun w1 b1 => by
        rw [← hnl]
        exact eqfSt_any (hr.stay (kp_st _) (ok' := fun b => b < w.heap.size) (fun b hb hl => ⟨hb, b1.block b hl⟩)) (hr'.stay (kp_st _) (ok' := fun b => b < w.heap.size) (fun b hb hl => ⟨hb, b1.block b hl⟩)) (fun s hs => (hf.2 s hs).1)
      have hll : nl ≤ 100000 := by rw [← hnl]; exact hf.1
      have HML := mkHid hml
      have HNL := mkHid hnl
      have HF := mkHid hf
      have HR := mkHid hr
      have HR' := mkHid hr'
      have HM2 : Hid ((ps'.map szQ).sum + szL (dd + 1) l ≤ gk ∧ gk ≤ 1000000) := hm
      have HK2 : Hid (∀ x ∈ ps', PqOk w.heap.size w x) := fun y hy => hK.out y (by simp [hy])
      have HP := mkHid hP
      unfold maxLen at hs3m ht3m k2 k4
      clear hT hK hM hTT hP hml hnl hf hr hr' hm hxs he
      have i1 : ((m : Int) + 1 > 0) := by omega
      have i3 : (0 : Int) ≤ (m : Int) := by omega
      have i4 : (m : Int) ≤ (gc : Int) := by omega
      have i4' : (m : Int) ≤ (gc' : Int) := by omega
      have i5 : (m : Int) < (m : Int) + 1 := by omega
      go_upto_region 6 with fail
      go_region_held_law (fun w' => w'.cell? ⟨g, m, none⟩ = some (.slice s1 nl s3) ∧ w'.cell? ⟨g', m, none⟩ = some (.slice t1 nl t3))
        (exact ⟨k7, k8⟩)
        (fail)
      go_upto_region 7 with fail
      go_region_held_law (fun w' => w'.cell? ⟨g, m, none⟩ = some (.slice s1 nl s3) ∧ w'.cell? ⟨g', m, none⟩ = some (.slice t1 nl t3))
        (exact ⟨k7, k8⟩)
        (fail)
      have hP2 : Hid (Two wr.drew.drew w.heap.size 26 (.slice (some ⟨g, 0, none⟩) m gc) (.slice (some ⟨g', 0, none⟩) m gc') m m (ps'.map (fun x => x.2.1)) (ps'.map (fun x => x.2.2))) := HP.out.drew.drew
      have hb2 := hb.drew.drew
      clear k7 k8 hb HP
      generalize wr.drew.drew = w2 at *
      go_upto_region 10 with (first
        | (go_at_call 43; refine (hcall _ hb2).mono ?_; rintro e w3 ⟨rfl, b3⟩)
        | fail)
      have hP3 := mkHid (hP2.out.on b3)
      have hb3 := hb2.trans (b3.mono hb2.size)
      clear hP2 hb2 b3 hcall
      have hr0 : Hid (Two w3 w.heap.size 26 (.slice (some ⟨g, 0, none⟩) m gc) (.slice (some ⟨g', 0, none⟩) m gc') (m + 0) (m + 0) ((ps' ++ ([] : List Pq2)).map (fun x => x.2.1)) ((ps' ++ ([] : List Pq2)).map (fun x => x.2.2))) := by
        show Two _ _ _ _ _ _ _ _ _
        rw [List.append_nil]
        exact hP3.out
      clear hP3
      go_wp2
      go_loopw [5, 6, 70] (fun p q ix wr => ∃ (j : Nat) (ks : List Pq2), j ≤ nl ∧ ix = .int .i64 (j : Int) ∧ Hid (ks.length = j ∧ (∀ x ∈ ks, PqOk w.heap.size w x) ∧ ks.map szQ = (l.take j).map (fun t => szL dd t.2)) ∧ Hid (Two wr w.heap.size 26 p q (m + j) (m + j) ((ps' ++ ks).map (fun x => x.2.1)) ((ps' ++ ks).map (fun x => x.2.2))) ∧ Below w.heap.size w wr) (fun _ _ ix _ => nl - (RowKit.intOf ix).toNat)
      case atStart => exact ⟨0, [], Nat.zero_le _, rfl, ⟨rfl, fun x hx => absurd hx (by simp), rfl⟩, hr0, hb3⟩
      case round =>
        clear hr0 hb3
        obtain ⟨j, ks, hj, rfl, hks, hT0, hb⟩ := hrel
        obtain ⟨ra, rc, rfl, hrl, hrm⟩ := own_formQ hT0.out.a
        obtain ⟨sa, sc, rfl, hsl, hsm⟩ := own_formQ hT0.out.b
        by_cases hjl : j < nl
        · have hjll : j < l.length := by rw [HNL.out]; exact hjl
          obtain ⟨b, off, _, _, e4, e6, rfl, hbl, _, hIn, hc⟩ := stQ_at HR.out j hjll
          obtain ⟨b', off', _, _, f4, f6, rfl, hbl', _, hIn', hc'⟩ := stQ_at HR'.out j hjll
          obtain ⟨t, ht⟩ : ∃ t, l[j] = t := ⟨_, rfl⟩
          have htk := HF.out.2 _ (List.getElem_mem hjll)
          rw [ht] at hIn hc hIn' hc'
          have htk : StOk (dd + 1) t := by rw [← ht]; exact htk
          obtain ⟨ei, hei⟩ : ∃ m, t.2.length = m := ⟨_, rfl⟩
          rw [hei] at hIn hc hIn' hc'
          have C0 := hc 10 _ rfl
          have D0 := hc' 10 _ rfl
          have C := (hb.cell (p := ⟨b, off + j * 11 + 10, none⟩) hbl).trans C0
          have D := (hb.cell (p := ⟨b', off' + j * 11 + 10, none⟩) hbl').trans D0
          obtain ⟨kk, hkk⟩ : ∃ kk : Pq2, kk = (⟨dd, t.2⟩, .slice e4 ei e6, .slice f4 ei f6) := ⟨_, rfl⟩
          have hk2 : Hid ((ks ++ [kk]).length = j + 1 ∧ (∀ x ∈ ks ++ [kk], PqOk w.heap.size w x) ∧ (ks ++ [kk]).map szQ = (l.take (j + 1)).map (fun t => szL dd t.2)) := by
            refine ⟨by rw [List.length_append, hks.out.1]; rfl, fun y hy => ?_, ?_⟩
            · rcases List.mem_append.1 hy with hy | hy
              · exact hks.out.2.1 y hy
              · have : y = kk := by simpa using hy
                rw [this, hkk]
                exact ⟨⟨htk.2.1, htk.2.2⟩, hIn, hIn'⟩
            · rw [List.map_append, hks.out.2.2, List.take_succ_eq_append_getElem hjll, List.map_append, ht, hkk]
              rfl
          have hx1 : (ps' ++ (ks ++ [kk])).map (fun x => x.2.1) = (ps' ++ ks).map (fun x => x.2.1) ++ [.slice e4 ei e6] := by rw [← List.append_assoc, List.map_append, hkk]; rfl
          have hx2 : (ps' ++ (ks ++ [kk])).map (fun x => x.2.2) = (ps' ++ ks).map (fun x => x.2.2) ++ [.slice f4 ei f6] := by rw [← List.append_assoc, List.map_append, hkk]; rfl
          have HX1 := mkHid hx1
          have HX2 := mkHid hx2
          clear hx1 hx2 hkk
          have i6 : (j : Int) < (nl : Int) := by omega
          have i7 : (0 : Int) ≤ (j : Int) := by omega
          have hT : Two wr.drew w.heap.size 26 (.slice ra (m + j) rc) (.slice sa (m + j) sc) (m + j) (m + j) ((ps' ++ ks).map (fun x => x.2.1)) ((ps' ++ ks).map (fun x => x.2.2)) := hT0.out.drew
          have hpa := fun g hg => (ownsRow_lt hT0.out.a g hg).2
          have hpb := fun g hg => (ownsRow_lt hT0.out.b g hg).2
          have hBB : Below w.heap.size w wr.drew := hb.drew
          have hbs := hb.size
          have hlb : b < wr.heap.size := by omega
          have hlb' : b' < wr.heap.size := by omega
          clear hc hc' hIn hIn' htk ht hei hks hT0 HR HR' HF
          go_upto_region 13 with fail
          go_region_held_law (fun w' => w'.cell? ⟨b, off + j * 11 + 10, none⟩ = some (.slice e4 ei e6) ∧ w'.cell? ⟨b', off' + j * 11 + 10, none⟩ = some (.slice f4 ei f6))
            ((refine ⟨?_, ?_⟩ <;> (repeat (first | (with_reducible exact C) | (with_reducible exact D) | (with_reducible refine cell_al ?_) | (with_reducible refine cell_dr ?_))) <;> done))
            (first
              | (refine two_push _ rfl _ _ 86 rfl w.heap.size 26 ir (.slice none 0 0) 24 Tryz.underlying86 hir hir0 hir1 hir2 rfl (.slice ra (m + j) rc) _ (m + j) _ _ _ rfl (by first | exact hT | exact (hT.alloc _) | exact ((hT.alloc _).alloc _)) _ (.slice e4 ei e6) rfl (by first | exact cell1_new _ _ _ _ (by first | rfl | simp) | exact cell_al (cell1_new _ _ _ _ (by first | rfl | simp)) | exact hkp _ _ (cell1_new _ _ _ _ (by first | rfl | simp)) (fun e => by have := hpb _ e; (first | omega | (simp at this; omega))) | exact hkp _ _ (cell_al (cell1_new _ _ _ _ (by first | rfl | simp))) (fun e => by have := hpb _ e; (first | omega | (simp at this; omega)))) rfl (by omega) (by unfold maxLen; omega) (by first | omega | (simp; omega)) ?_; intro da dc wq hT2 hbq hkp; have hT := hT2; (first | have hBB := Below.aft hBB hbq | have hBB := Below.aft (Below.al1 hBB _) hbq | have hBB := Below.aft (Below.al1 (Below.al1 hBB _ hBB.size) _ (by simp; omega)) hbq); have hbs := hBB.size; have C := (hBB.cell (p := ⟨b, off + j * 11 + 10, none⟩) hbl).trans C0; have D := (hBB.cell (p := ⟨b', off' + j * 11 + 10, none⟩) hbl').trans D0)
              | (refine two_push _ rfl _ _ 86 rfl w.heap.size 26 ir (.slice none 0 0) 24 Tryz.underlying86 hir hir0 hir1 hir2 rfl (.slice sa (m + j) sc) _ (m + j) _ _ _ rfl (by first | exact hT.symm | exact (hT.alloc _).symm | exact ((hT.alloc _).alloc _).symm) _ (.slice f4 ei f6) rfl (by first | exact cell1_new _ _ _ _ (by first | rfl | simp) | exact cell_al (cell1_new _ _ _ _ (by first | rfl | simp)) | exact hkp _ _ (cell1_new _ _ _ _ (by first | rfl | simp)) (fun e => by have := hpa _ e; (first | omega | (simp at this; omega))) | exact hkp _ _ (cell_al (cell1_new _ _ _ _ (by first | rfl | simp))) (fun e => by have := hpa _ e; (first | omega | (simp at this; omega)))) rfl (by omega) (by unfold maxLen; omega) (by first | omega | (simp; omega)) ?_; intro da dc wq hT2 hbq hkp; have hT := hT2.symm; (first | have hBB := Below.aft hBB hbq | have hBB := Below.aft (Below.al1 hBB _) hbq | have hBB := Below.aft (Below.al1 (Below.al1 hBB _ hBB.size) _ (by simp; omega)) hbq); have hbs := hBB.size; have C := (hBB.cell (p := ⟨b, off + j * 11 + 10, none⟩) hbl).trans C0; have D := (hBB.cell (p := ⟨b', off' + j * 11 + 10, none⟩) hbl').trans D0)
              | fail)
          all_goals (
            have hT9 := hT
            rw [← HX1.out, ← HX2.out] at hT9
            have HT9 := mkHid hT9
            have hb9 := hBB
            clear hT hT2 hT9 hBB hbq hkp C D C0 D0 hpa hpb HX1 HX2
            (try simp only [List.getElem_toArray, List.getElem_cons_succ, List.getElem_cons_zero, List.set_cons_succ, List.set_cons_zero, List.setIfInBounds_toArray])
            go_wp2
            go_roundw
            case rel => exact ⟨j + 1, ks ++ [kk], hjl, by go_num, hk2, HT9, hb9⟩
            case measure => simp [RowKit.intOf]; omega)
        · have i6 : ¬ (j : Int) < (nl : Int) := by omega
          have hjn : j = nl := by omega
          subst hjn
          have hkz := hks.out.2.2
          rw [List.take_of_length_le (by rw [HNL.out]; exact Nat.le_refl _)] at hkz
          have hsl : szL (dd + 1) l = (l.map (fun t => szL dd t.2)).sum + 1 := rfl
          have hsum := HM2.out
          have hsum2 : ((ps' ++ ks).map szQ).sum = (ps'.map szQ).sum + (l.map (fun t => szL dd t.2)).sum := by rw [List.map_append, List.sum_append, hkz]
          have hlen : (ps' ++ ks).length = m + j := by rw [List.length_append, HML.out, hks.out.1]
          have hT8 := hT0.out
          rw [← hlen] at hT8
          have hT9 : Hid (Two wr w.heap.size 26 (.slice ra (m + j) rc) (.slice sa (m + j) sc) (ps' ++ ks).length (ps' ++ ks).length ((ps' ++ ks).map (fun x => x.2.1)) ((ps' ++ ks).map (fun x => x.2.2))) := by
            have := hT0.out
            show Two _ _ _ _ _ _ _ _ _
            rw [hlen]
            exact this
          have hK9 : Hid (∀ x ∈ ps' ++ ks, PqOk w.heap.size w x) := fun y hy => by
            rcases List.mem_append.1 hy with hy | hy
            · exact HK2.out y hy
            · exact hks.out.2.1 y hy
          clear hT0 hT8 hkz
          go_wp2
          go_roundg ((ps'.map szQ).sum + (l.map (fun t => szL dd t.2)).sum)
          case measure => omega
          case rel => exact ⟨ps' ++ ks, hT9, hK9, ⟨by rw [hsum2]; exact Nat.le_refl _, by omega⟩, hb⟩
end Go.Proofs.YtccmmkhcacglhaaGreatDoor

/- The text of a chart and its words. Math alone. -/
namespace Go.Proofs.YtccmmkhcacglhaaGreatDoor
open Go.RowKit Go.Lib
set_option linter.unusedSimpArgs false
set_option linter.unusedVariables false

def blk (c : UInt8) : Prop := c = 32 ∨ c = 9 ∨ c = 10
abbrev ChX (d : Nat) := (List UInt8 × Pl) × Int × List (List UInt8 × Int × Pl) × List (St d)
/-- What is formed. -/
def plX (x : Sx) : Bool := plC x.1 x.2
def nbB (n : Int) : Bool := decide (0 ≤ n ∧ n ≤ 1000000000)
def exF (x : Sx) : Bool := fmX x && plX x
def setF (s : List UInt8 × Sx) : Bool := plainB s.1 && exF s.2
def onF (o : OnC) : Bool := plainB o.1 && ((!o.2.1.1 || exF o.2.1.2) && (plainB o.2.2.1 && o.2.2.2.1.all setF))
def stepB (h : HdC) : Bool := !(decide (h.2.2.1.1 = []) && decide (h.2.2.1.2 = []) && decide (h.2.2.2.1.1 = 0) && decide (h.2.2.2.1.2 = 0))
def kndF (h : HdC) : Bool := if stepB h = true then !h.2.1.1 && !h.2.1.2 && plainB h.2.2.1.1 && plainB h.2.2.1.2 && nbB h.2.2.2.1.1 && nbB h.2.2.2.1.2 else !h.2.1.1 || !h.2.1.2
def stF : (d : Nat) → Nat → St d → Bool
  | 0, _, t => Empty.elim t
  | d + 1, n, t => decide (n ≤ 6) && plainB t.1.1.1 && kndF t.1 && t.1.2.2.2.2.all onF && t.2.all (stF d (n + 1))
def varF (v : List UInt8 × Int × Pl) : Bool := plainB v.1 && decide (-1000000000 ≤ v.2.1 ∧ v.2.1 ≤ 1000000000)
def chF (d : Nat) (c : ChX d) : Bool := plainB c.1.1 && nbB c.2.1 && c.2.2.1.all varF && c.2.2.2.all (stF d 1)
/-- Its expressions are clean ones. -/
def OnCl (o : OnC) : Prop := (o.2.1.1 = true → ClX o.2.1.2) ∧ ∀ s ∈ o.2.2.2.1, ClX s.2
def StCl : (d : Nat) → St d → Prop
  | 0, t => Empty.elim t
  | d + 1, t => (∀ o ∈ t.1.2.2.2.2, OnCl o) ∧ ∀ x ∈ t.2, StCl d x
/-- They fit. -/
theorem plain_name {s : List UInt8} (h : plainB s = true) : nameS s = true := by
  unfold plainB at h
  exact ((Bool.and_eq_true _ _).mp h).1
theorem exF_parts {x : Sx} (hc : ClX x) (h : exF x = true) : okT (valB 0) rsvB dcN x.1 x.2 ∧ rtT dcN x.1 x.2 := by
  unfold exF at h
  rw [Bool.and_eq_true] at h
  exact ok_sound x.1 x.2 hc (fm_parts h.1).2 h.2
end Go.Proofs.YtccmmkhcacglhaaGreatDoor

/- A formed chart's pieces fit. Math alone. -/
namespace Go.Proofs.YtccmmkhcacglhaaGreatDoor
open Go.RowKit Go.Lib
set_option linter.unusedSimpArgs false
set_option linter.unusedVariables false

theorem onF_parts {o : OnC} (h : onF o = true) : plainB o.1 = true ∧ (o.2.1.1 = true → exF o.2.1.2 = true) ∧ plainB o.2.2.1 = true ∧ o.2.2.2.1.all setF = true := by
  unfold onF at h
  simp only [Bool.and_eq_true, Bool.or_eq_true, Bool.not_eq_true'] at h
  exact ⟨h.1, fun e => h.2.1.elim (fun q => by rw [e] at q; cases q) id, h.2.2.1, h.2.2.2⟩
theorem kndF_step {h : HdC} (hf : kndF h = true) (hs : stepB h = true) : h.2.1.1 = false ∧ h.2.1.2 = false ∧ plainB h.2.2.1.1 = true ∧ plainB h.2.2.1.2 = true ∧ nbB h.2.2.2.1.1 = true ∧ nbB h.2.2.2.1.2 = true := by
  unfold kndF at hf
  rw [if_pos hs] at hf
  simp only [Bool.and_eq_true, Bool.not_eq_true'] at hf
  exact ⟨hf.1.1.1.1.1, hf.1.1.1.1.2, hf.1.1.1.2, hf.1.1.2, hf.1.2, hf.2⟩
theorem step_do {h : HdC} (hd : h.2.2.1.1 ≠ []) : stepB h = true := by
  unfold stepB
  rw [decide_eq_false hd]; rfl
theorem nb_of {n : Int} (h : nbB n = true) : 0 ≤ n ∧ n ≤ 1000000000 := by
  unfold nbB at h
  rwa [decide_eq_true_eq] at h
theorem stF_parts {d : Nat} {n : Nat} {t : St (d + 1)} (h : stF (d + 1) n t = true) : n ≤ 6 ∧ plainB t.1.1.1 = true ∧ kndF t.1 = true ∧ t.1.2.2.2.2.all onF = true ∧ t.2.all (stF d (n + 1)) = true := by
  have h' : (decide (n ≤ 6) && plainB t.1.1.1 && kndF t.1 && t.1.2.2.2.2.all onF && t.2.all (stF d (n + 1))) = true := h
  simp only [Bool.and_eq_true, decide_eq_true_eq] at h'
  exact ⟨h'.1.1.1.1, h'.1.1.1.2, h'.1.1.2, h'.1.2, h'.2⟩
theorem chF_parts {d : Nat} {c : ChX d} (h : chF d c = true) : plainB c.1.1 = true ∧ nbB c.2.1 = true ∧ c.2.2.1.all varF = true ∧ c.2.2.2.all (stF d 1) = true := by
  unfold chF at h
  simp only [Bool.and_eq_true] at h
  exact ⟨h.1.1.1, h.1.1.2, h.1.2, h.2⟩
end Go.Proofs.YtccmmkhcacglhaaGreatDoor
