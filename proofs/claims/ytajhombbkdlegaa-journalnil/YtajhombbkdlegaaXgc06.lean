import Derived.Test.YtajhombbkdlegaaXgc03
import Derived.Test.YtajhombbkdlegaaXgc05
import Derived.BigQuiet
import Derived.Deep.QuietTactic
import Derived.Deep.RegionLaw
import Derived.Deep.Cut

/- The journal: a segment parsed. -/
namespace Go.Proofs.Ytajhombbkdlegaa
open Go.RowKit Go.Lib Go.Maps
set_option linter.unusedSimpArgs false
set_option linter.unusedVariables false
set_option maxRecDepth 100000
attribute [local go_sem ↓] Go.wp_at_zero Go.wp_at_succ

abbrev set7 (w : World) (R : Nat) (u0 u1 u2 u3 u4 u5 u6 : Value) : World := ((((((w.setCell ⟨R, 0, none⟩ u0).setCell ⟨R, 1, none⟩ u1).setCell ⟨R, 2, none⟩ u2).setCell ⟨R, 3, none⟩ u3).setCell ⟨R, 4, none⟩ u4).setCell ⟨R, 5, none⟩ u5).setCell ⟨R, 6, none⟩ u6
theorem bn7 {w : World} {R : Nat} {a0 a1 a2 a3 a4 a5 a6 : Value} (h : Bn w R [a0, a1, a2, a3, a4, a5, a6]) (u0 u1 u2 u3 u4 u5 u6 : Value) : Bn (set7 w R u0 u1 u2 u3 u4 u5 u6) R [u0, u1, u2, u3, u4, u5, u6] :=
  ((((((h.set (i := 0) (by simp) u0).set (i := 1) (by simp) u1).set (i := 2) (by simp) u2).set (i := 3) (by simp) u3).set (i := 4) (by simp) u4).set (i := 5) (by simp) u5).set (i := 6) (by simp) u6
theorem heap7 (w : World) {R k : Nat} (h : k ≠ R) (u0 u1 u2 u3 u4 u5 u6 : Value) : (set7 w R u0 u1 u2 u3 u4 u5 u6).heap[k]? = w.heap[k]? := by
  unfold set7
  repeat rw [Below.heap_setCell _ _ _ _ (fun e => h e)]
theorem below7 {B R : Nat} {u w : World} (h : Below B u w) (hR : B ≤ R) (u0 u1 u2 u3 u4 u5 u6 : Value) : Below B u (set7 w R u0 u1 u2 u3 u4 u5 u6) :=
  ((((((h.setCell (p := ⟨R, 0, none⟩) hR u0).setCell (p := ⟨R, 1, none⟩) hR u1).setCell (p := ⟨R, 2, none⟩) hR u2).setCell (p := ⟨R, 3, none⟩) hR u3).setCell (p := ⟨R, 4, none⟩) hR u4).setCell (p := ⟨R, 5, none⟩) hR u5).setCell (p := ⟨R, 6, none⟩) hR u6
theorem jparsed_res {w : World} {R : Nat} {a0 a1 a2 a3 a4 a5 a6 : Value} {tmps : Array Value} (hR : Bn w R [a0, a1, a2, a3, a4, a5, a6]) (ht : tmps.getD 4 undef = .pointer (some ⟨R, 0, none⟩)) : (results Try.f61 tmps).run Try.prog w = .ok (.agg #[a0, a1, a2, a3, a4, a5, a6]) w := by
  have c0 := (hR 0 _ rfl).1
  have c1 := (hR 1 _ rfl).1
  have c2 := (hR 2 _ rfl).1
  have c3 := (hR 3 _ rfl).1
  have c4 := (hR 4 _ rfl).1
  have c5 := (hR 5 _ rfl).1
  have c6 := (hR 6 _ rfl).1
  have ht' : tmps[4]?.getD undef = .pointer (some ⟨R, 0, none⟩) := by simpa using ht
  simp [results, Try.results61, go_sem, ht', c0, c1, c2, c3, c4, c5, c6]
theorem OwnK.low' {w : World} {b b' e : Nat} {v : Value} {l : List (List Int)} (h : OwnK w b e 1 rBy v l) (hb : b' ≤ b) : OwnK w b' e 1 rBy v l := by
  obtain ⟨qs, h1, h2, h3⟩ := h
  refine ⟨qs, ?_, h2, fun i hi hi' => ⟨(h3 i hi hi').1, kp_By (h3 i hi hi').2 (fun k hk _ => ⟨⟨Nat.le_trans hb hk.1, hk.2⟩, rfl⟩)⟩⟩
  refine ⟨h1.1, ?_⟩
  rcases h1.2 with hn | ⟨g, cap, cur, e1, e2, e3⟩
  · exact .inl hn
  · exact .inr ⟨g, cap, cur, e1, Nat.le_trans hb e2, e3⟩
theorem ownK_blkJ {w : World} {b e : Nat} {v : Value} {l : List (List Int)} (h : OwnK w b e 1 rBy v l) : ∀ x, v.ownBlock = some x → b ≤ x ∧ x < w.heap.size := by
  obtain ⟨qs, h1, _⟩ := h
  exact ownsRow_lt h1
theorem jnum {sz : Int} {pl m a : Nat} (h1 : sz = (pl : Int) + 6) (h3 : pl + 6 ≤ m - a) (hm : m ≤ 1000000) : ∃ z : Nat, sz = (z : Int) ∧ ((z : Int)).toNat = z ∧ a + z ≤ m ∧ 0 < z ∧ Hid (IntKind.i64.wrap ((a : Int) + (z : Int)) = ((a + z : Nat) : Int)) :=
  ⟨pl + 6, by omega, by omega, by omega, by omega, hideD (by rw [IntKind.wrap_i64]; omega)⟩
theorem jmeas {x : Int} {m a z : Nat} (h : x = ((a + z : Nat) : Int)) (h2 : a + z ≤ m) (h3 : 0 < z) : m - (RowKit.intOf (.int .i64 x)).toNat < m - (RowKit.intOf (.int .i64 (a : Int))).toNat := by
  subst h
  simp only [RowKit.intOf]
  omega
theorem wrap64_iJ (n : Int) : wrap64 n = IntKind.i64.wrap n := by
  unfold wrap64
  rw [IntKind.wrap_i64]
/-- What parsed leaves. -/
def JpOut (w w' : World) (n sz : Int) (s : SgM) (e : Ending) : Prop := ∃ rv, e = .returned (.agg #[.int .i64 n, .int .i64 sz, rv, .bool s.begun, .bool s.ended, .bool s.torn, .bool s.wrong]) ∧ OwnK w' w.heap.size 41 1 rBy rv s.recs ∧ Below w.heap.size w w'
theorem jtake_some {w : World} {Z base lo pb pc pl : Nat} {n sz : Int} {a : Nat} {s s' : SgM} {rv : Value} {p : List Int} (hB : Bn w Z (sgC n sz rv s)) (ho : OwnK w base 41 1 rBy rv s.recs) (hZ : Z < base) (hbs : base ≤ w.heap.size)
    (hp : Own w lo 5 (.slice (some ⟨pb, 0, none⟩) pl pc) p) (hlo : base ≤ lo) (hrv : ∀ x, rv.ownBlock = some x → x < lo) (hbn : s.recs.length ≤ 1000000) (hpl : p.length = pl) (h1 : 1 ≤ pl) (ht : jTk s p (decide (a = 0)) = some s') :
    Calls Try.prog 75 #[.pointer (some ⟨Z, 0, none⟩), .slice (some ⟨pb, 0, none⟩) pl pc, .int .i64 (a : Int)] w fun e w' => e = .returned (.bool true) ∧
      ∃ rv', Bn w' Z (sgC n sz rv' s') ∧ OwnK w' base 41 1 rBy rv' s'.recs ∧ Kf (fun j => j = Z ∨ base ≤ j) w w' ∧ s'.recs.length ≤ s.recs.length + 1 := by
  unfold jTk at ht
  split at ht
  · rename_i h
    obtain rfl := Option.some.inj ht
    refine (jtake_0 hB ho hZ hbs hp hlo hrv hbn h.1 hpl (by omega)).mono ?_
    rintro e w' ⟨rfl, rv', h3, h4, h5⟩
    exact ⟨rfl, rv', h3, h4, h5, by simp⟩
  split at ht
  · rename_i h
    obtain rfl := Option.some.inj ht
    obtain ⟨e0, e1, e2⟩ := h
    have ha : a = 0 := of_decide_eq_true e2
    subst ha
    rw [hpl] at e1
    subst e1
    refine (jtake_1 hB hp e0 hpl).mono ?_
    rintro e w' ⟨rfl, h3, h4⟩
    exact ⟨rfl, rv, h3, ho.keep kp_By (fun k hk hlt => h4.block k hlt (fun e => by have e : k = Z := e; omega)), h4.mono (fun j hj => .inl hj), by simp⟩
  split at ht
  · rename_i h
    obtain rfl := Option.some.inj ht
    obtain ⟨e0, e1, e2, e3⟩ := h
    rw [hpl] at e1
    subst e1
    refine (jtake_2 hB hp e0 hpl e2 e3).mono ?_
    rintro e w' ⟨rfl, h3, h4⟩
    exact ⟨rfl, rv, h3, ho.keep kp_By (fun k hk hlt => h4.block k hlt (fun e => by have e : k = Z := e; omega)), h4.mono (fun j hj => .inl hj), by simp⟩
  · cases ht
theorem jp_out {w wr : World} {Z B : Nat} {n sz : Int} {s : SgM} {rv z0 z1 z2 z3 z4 z5 z6 : Value} (hBz : Bn wr Z [z0, z1, z2, z3, z4, z5, z6]) (hO : OwnK wr B 41 1 rBy rv s.recs) (hb : Below Z w wr) (hZ : w.heap.size = Z) (hB : Z < B) :
    Bn (set7 wr Z (.int .i64 n) (.int .i64 sz) rv (.bool s.begun) (.bool s.ended) (.bool s.torn) (.bool s.wrong)) Z [.int .i64 n, .int .i64 sz, rv, .bool s.begun, .bool s.ended, .bool s.torn, .bool s.wrong] ∧ JpOut w (set7 wr Z (.int .i64 n) (.int .i64 sz) rv (.bool s.begun) (.bool s.ended) (.bool s.torn) (.bool s.wrong)) n sz s (.returned (.agg #[.int .i64 n, .int .i64 sz, rv, .bool s.begun, .bool s.ended, .bool s.torn, .bool s.wrong])) := by
  refine ⟨bn7 hBz _ _ _ _ _ _ _, rv, rfl, ?_, ?_⟩
  · rw [hZ]
    exact OwnK.low' (hO.keep kp_By (fun k hk _ => heap7 wr (by omega) _ _ _ _ _ _ _)) (by omega)
  · rw [hZ]
    exact below7 hb (Nat.le_refl _) _ _ _ _ _ _ _
set_option maxHeartbeats 8000000 in
theorem jparsed_any {w : World} (n : Int) {v : Value} {b : List Int} (hr : Rd w v b) (hy : ∀ x ∈ b, 0 ≤ x ∧ x ≤ 255) (hl : b.length ≤ 1000000) :
    Calls Try.prog 61 #[.int .i64 n, v] w fun e w' => JpOut w w' n (b.length : Int) (jPrsB b) e := by
  obtain ⟨ba, bc, rfl, hbc, hbm, _⟩ := id hr
  obtain ⟨m, hm⟩ : ∃ k, b.length = k := ⟨_, rfl⟩
  have HM := hideD hm
  have HY := hideD hy
  have HR := hideD hr
  have H0 := hideD (show jPrs (m + 1) jSg0 0 (b.drop 0) = jPrsB b by unfold jPrsB; rw [hm]; rfl)
  obtain ⟨R, hR⟩ : ∃ k, jPrsB b = k := ⟨_, rfl⟩
  rw [hR] at H0 ⊢
  rw [hm] at hl hbc ⊢
  clear hr hy hR hm
  go_enter Try.func61, Try.ntmps61
  go_upto_region 3 with fail
  obtain ⟨w1, hw1⟩ : ∃ k, w.alloc (.cells #[.int .i64 0, .int .i64 0, .slice none 0 0, .bool false, .bool false, .bool false, .bool false] 78) = k := ⟨_, rfl⟩
  have hb1 : Below w.heap.size w w1 := by rw [← hw1]; exact (Below.refl _ _).alloc (Nat.le_refl _) _
  have hs1 : w1.heap.size = w.heap.size + 1 := by rw [← hw1]; simp
  have hR1 : Bn w1 w.heap.size [.int .i64 0, .int .i64 0, .slice none 0 0, .bool false, .bool false, .bool false, .bool false] := by rw [← hw1]; exact Bn.new w _ _ _ rfl
  rw [hw1]
  obtain ⟨w2, hw2⟩ : ∃ k, w1.alloc (.cells #[.int .i64 n, .int .i64 (m : Int), .slice none 0 0, .bool false, .bool false, .bool false, .bool false] 78) = k := ⟨_, rfl⟩
  have hb2 : Below w1.heap.size w1 w2 := by rw [← hw2]; exact (Below.refl _ _).alloc (Nat.le_refl _) _
  have hs2 : w2.heap.size = w.heap.size + 2 := by rw [← hw2]; simp; omega
  have hS2 : Bn w2 (w.heap.size + 1) (sgC n m (.slice none 0 0) jSg0) := by rw [← hw2]; exact Bn.new w1 _ _ _ hs1.symm
  rw [hw2]
  have hR2 := hR1.on hb2
  obtain ⟨B, hB⟩ : ∃ k, w.heap.size + 2 = k := ⟨_, rfl⟩
  have hK0 : Below w.heap.size w w2 := hb1.trans (hb2.mono (by omega))
  have hO2 : OwnK w2 B 41 1 rBy (.slice none 0 0) ([] : List (List Int)) := ownK_nil _ _ _ _ _
  have HB := hideD hB
  obtain ⟨S, hS⟩ : ∃ k, w.heap.size + 1 = k := ⟨_, rfl⟩
  obtain ⟨Z, hZ⟩ : ∃ k, w.heap.size = k := ⟨_, rfl⟩
  rw [hS] at hS2
  rw [hZ] at hR2 hK0
  have HS := hideD hS
  have HZ := hideD hZ
  have HI := hideD (show ∃ (f : Nat) (s : SgM) (rv : Value), (b.drop 0).length < f ∧ jPrs f s 0 (b.drop 0) = R ∧ s.recs.length ≤ 0 ∧ Bn w2 S (sgC n m rv s) ∧ OwnK w2 B 41 1 rBy rv s.recs ∧ (∃ z0 z1 z2 z3 z4 z5 z6, Bn w2 Z [z0, z1, z2, z3, z4, z5, z6]) ∧ Below Z w w2 ∧ B ≤ w2.heap.size from ⟨m + 1, jSg0, .slice none 0 0, by rw [List.drop_zero, HM.out]; omega, H0.out, by simp [jSg0], hS2, hO2, ⟨_, _, _, _, _, _, _, hR2⟩, hK0, by omega⟩)
  rw [hS, hZ]
  clear hb1 hs1 hR1 hw1 hb2 hs2 hS2 hw2 hR2 hK0 hO2 hB hS hZ H0
  go_loopw [6] (fun ix wr => ∃ (a : Nat), a ≤ m ∧ ix = .int .i64 (a : Int) ∧ Hid (∃ (f : Nat) (s : SgM) (rv : Value), (b.drop a).length < f ∧ jPrs f s a (b.drop a) = R ∧ s.recs.length ≤ a ∧ Bn wr S (sgC n m rv s) ∧ OwnK wr B 41 1 rBy rv s.recs ∧ (∃ z0 z1 z2 z3 z4 z5 z6, Bn wr Z [z0, z1, z2, z3, z4, z5, z6]) ∧ Below Z w wr ∧ B ≤ wr.heap.size)) (fun ix _ => m - (RowKit.intOf ix).toNat)
  case atStart => exact ⟨0, Nat.zero_le _, rfl, HI⟩
  case round =>
    clear HI
    obtain ⟨a, ha, rfl, HI⟩ := hrel
    obtain ⟨f, s, rv, hf, hp, hsl, hBs, hOs, ⟨z0, z1, z2, z3, z4, z5, z6, hBz⟩, hbw, hBw⟩ := HI.out
    clear HI
    have hZS : Z < S ∧ S < B := by have := HS.out; have := HZ.out; have := HB.out; omega
    have n1 : ¬ S = Z := by omega
    have n2 : ¬ Z = S := by omega
    by_cases hlt : a < m
    · have hbe := hbw
      obtain ⟨g, off, cap', e, _, _, _⟩ := HR.out.lies (by rw [HM.out]; omega)
      simp only [Value.slice.injEq] at e
      obtain ⟨rfl, _, rfl⟩ := e
      have hrw : Rd wr (.slice (some ⟨g, off, none⟩) m bc) b := by
        have h := rd_on HR.out (show Below w.heap.size w wr by rw [HZ.out]; exact hbw)
        rwa [HM.out] at h
      obtain ⟨sv, hsl1, hsr⟩ := cut_lo HM.out hrw (show a ≤ m by omega) (a : Int) rfl
      have hop := open_any sv (b.drop a) wr (hsr wr hrw) (fun x hx => HY.out x (List.mem_of_mem_drop hx))
      have hd0 : (b.drop a).length ≠ 0 := by rw [List.length_drop, HM.out]; omega
      have hdl : (b.drop a).length = m - a := by rw [List.length_drop, HM.out]
      have hos := fun h => openS_size (r := b.drop a) h
      have hgo := fun s' h ht => jPrs_go (s := s) (a := a) (s' := s') hf hd0 h ht
      have hto := fun h => jPrs_torn (s := s) (a := a) hf hd0 h
      have hba := fun h5 h => jPrs_bad (s := s) (a := a) hf hd0 h5 h
      have hno := fun h ht => jPrs_no (s := s) (a := a) hf hd0 h ht
      obtain ⟨o, hox⟩ : ∃ k, openS (b.drop a) = k := ⟨_, rfl⟩
      rw [hox] at hop hos hgo hto hba hno
      obtain ⟨p, sz, er⟩ := o
      simp only at hop hos hgo hto hba hno
      have i1 : (a : Int) < (m : Int) := by omega
      have i2 : (0 : Int) ≤ (a : Int) := by omega
      have hS0 := hideD hrw
      clear hrw hsr hox hd0
      go_upto_region 5 with (first
        | (go_at_call 74; refine hop.mono ?_; rintro e w3 ⟨u, rfl, ho3, hb3⟩; clear hop)
        | fail)
      have hBs3 := hBs.on hb3
      have hBz3 := hBz.on hb3
      have hOs3 := hOs.on kp_By hb3
      have hbw3 : Below Z w w3 := hbw.trans (hb3.mono (by omega))
      have hrv3 : ∀ x, rv.ownBlock = some x → x < wr.heap.size := fun x hx => (ownK_blkJ hOs x hx).2
      have hsz3 := hb3.size
      clear hBs hBz hOs hbw hbe
      obtain ⟨y0, q0⟩ := hBz3 0 _ rfl
      obtain ⟨y1, q1⟩ := hBz3 1 _ rfl
      obtain ⟨y2, q2⟩ := hBz3 2 _ rfl
      obtain ⟨y3, q3⟩ := hBz3 3 _ rfl
      obtain ⟨y4, q4⟩ := hBz3 4 _ rfl
      obtain ⟨y5, q5⟩ := hBz3 5 _ rfl
      obtain ⟨y6, q6⟩ := hBz3 6 _ rfl
      obtain ⟨x0, _⟩ := hBs3 0 _ rfl
      obtain ⟨x1, _⟩ := hBs3 1 _ rfl
      obtain ⟨x2, _⟩ := hBs3 2 _ rfl
      obtain ⟨x3, _⟩ := hBs3 3 _ rfl
      obtain ⟨x4, _⟩ := hBs3 4 _ rfl
      obtain ⟨x5, p5⟩ := hBs3 5 _ rfl
      obtain ⟨x6, p6⟩ := hBs3 6 _ rfl
      obtain ⟨ra, rc, rfl, _, _⟩ := id hOs3.form
      by_cases e5 : er = 5
      · have hR := (hto e5).symm.trans hp
        subst e5
        subst hR
        have HOK := hideD (jp_out (n := n) (sz := m) (s := { s with torn := true }) (hBz3.far (X := S) (i := 5) (by omega) (.bool true)) (hOs3.set kp_By (X := S) (i := 5) (by omega) (.bool true)) (hbw3.setCell (p := ⟨S, 5, none⟩) (by show Z ≤ S; omega) (.bool true)) HZ.out (by omega))
        clear hgo hto hba hno hos hp hBs3 hBz3 hOs3 hbw3 hrv3 ho3 hb3 hsz3 hf hZS hBw
        go_wp2
        (try simp only [Exit.inBlock, Exit.then])
        refine bodyPost_ret (jparsed_res HOK.out.1 rfl) rfl ?_
        exact HOK.out.2
      by_cases e0 : er = 0
      · subst e0
        obtain ⟨sz1, sz2, sz3⟩ := hos rfl
        obtain ⟨pl, hpl⟩ : ∃ k, p.length = k := ⟨_, rfl⟩
        rw [hpl] at sz1 sz2 sz3
        obtain ⟨pb, pc, rfl⟩ : ∃ pb pc, u = .slice (some ⟨pb, 0, none⟩) pl pc := by
          rcases ho3.2 with ⟨e, h0⟩ | ⟨q, cap, cur, e, _⟩
          · omega
          · exact ⟨q, cap, by rw [e, hpl]⟩
        cases ht : jTk s p (decide (a = 0)) with
        | none =>
          have hR := (hno rfl ht).symm.trans hp
          subst hR
          have htk := jtake_no (a := a) hBs3 ho3 hpl sz2 ht
          have HOK := hideD (jp_out (n := n) (sz := m) (s := { s with wrong := true }) (hBz3.far (X := S) (i := 6) (by omega) (.bool true)) (hOs3.set kp_By (X := S) (i := 6) (by omega) (.bool true)) (hbw3.setCell (p := ⟨S, 6, none⟩) (by show Z ≤ S; omega) (.bool true)) HZ.out (by omega))
          clear hgo hto hba hno hos hp hBs3 hBz3 hOs3 hbw3 hrv3 ho3 hb3 hsz3 hf hZS hBw ht e5 sz1 sz3 hpl hdl
          go_wp2_with (first
            | (go_at_call 75; refine htk.mono ?_; rintro e w4 ⟨rfl, rfl⟩; clear htk)
            | fail)
          (try simp only [Exit.inBlock, Exit.then])
          refine bodyPost_ret (jparsed_res HOK.out.1 rfl) rfl ?_
          exact HOK.out.2
        | some s' =>
          obtain ⟨f', g1, g2⟩ := hgo s' rfl ht
          have hR := g2.symm.trans hp
          have htk := jtake_some (a := a) hBs3 hOs3 (by omega) (by omega) ho3 (by omega) hrv3 (by omega) hpl sz2 ht
          rw [hdl] at sz3
          obtain ⟨z, hzi, hz, v2, v3, HWR⟩ := jnum sz1 sz3 hl
          subst hzi
          rw [hz, List.drop_drop] at g1 hR
          have hKz := hideD (show ∀ w4, Kf (fun j => j = S ∨ B ≤ j) w3 w4 → Bn w4 Z [z0, z1, z2, z3, z4, z5, z6] ∧ Below Z w w4 ∧ B ≤ w4.heap.size from fun w4 k => ⟨hBz3.blk (k.block Z hBz3.lt (fun e => by omega)), hbw3.trans (k.below (fun j hj => by omega) (by omega)), by have := k.size; omega⟩)
          have hlb := hideD (show (b.drop (a + z)).length < f' from g1)
          have HR' := hideD hR
          have hsl2 := hideD (show s.recs.length ≤ a ∧ a + z ≤ m ∧ 0 < z from ⟨hsl, v2, v3⟩)
          clear hgo hto hba hno hos hp hBs3 hBz3 hOs3 hbw3 hrv3 ho3 hb3 hf hZS hBw ht e5 g1 g2 hR hz hpl hdl sz1 sz2 sz3 hsl hsz3 v2 v3
          go_wp2_with (first
            | (go_at_call 75; refine htk.mono ?_; rintro e w4 ⟨rfl, rv', h1, h2, h3, h4⟩; clear htk; have HH := hideD (⟨h1, h2, h4, hKz.out w4 h3⟩ : _ ∧ _ ∧ _ ∧ _); clear h1 h2 h3 h4 hKz)
            | fail)
          go_roundw
          case rel =>
            obtain ⟨q1, q2, q3, q4, q5, q6⟩ := HH.out
            obtain ⟨v1, v2, v3⟩ := hsl2.out
            refine ⟨a + z, by omega, ?_, hideD ⟨f', s', rv', hlb.out, HR'.out, by omega, q1, q2, ⟨_, _, _, _, _, _, _, q4⟩, q5, q6⟩⟩
            exact congrArg (Value.int .i64) ((wrap64_iJ _).trans HWR.out)
          case measure =>
            obtain ⟨v1, v2, v3⟩ := hsl2.out
            exact jmeas ((wrap64_iJ _).trans HWR.out) v2 v3
      · have hR := (hba e5 e0).symm.trans hp
        subst hR
        have HOK := hideD (jp_out (n := n) (sz := m) (s := { s with wrong := true }) (hBz3.far (X := S) (i := 6) (by omega) (.bool true)) (hOs3.set kp_By (X := S) (i := 6) (by omega) (.bool true)) (hbw3.setCell (p := ⟨S, 6, none⟩) (by show Z ≤ S; omega) (.bool true)) HZ.out (by omega))
        clear hgo hto hba hno hos hp hBs3 hBz3 hOs3 hbw3 hrv3 ho3 hb3 hsz3 hf hZS hBw
        go_wp2
        (try simp only [Exit.inBlock, Exit.then])
        refine bodyPost_ret (jparsed_res HOK.out.1 rfl) rfl ?_
        exact HOK.out.2
    · have k1 : ¬ (a : Int) < (m : Int) := by omega
      have e : (b.drop a).length = 0 := by rw [List.length_drop, HM.out]; omega
      rw [jPrs_end e] at hp
      subst hp
      obtain ⟨x0, _⟩ := hBs 0 _ rfl
      obtain ⟨x1, _⟩ := hBs 1 _ rfl
      obtain ⟨x2, _⟩ := hBs 2 _ rfl
      obtain ⟨x3, _⟩ := hBs 3 _ rfl
      obtain ⟨x4, _⟩ := hBs 4 _ rfl
      obtain ⟨x5, _⟩ := hBs 5 _ rfl
      obtain ⟨x6, _⟩ := hBs 6 _ rfl
      obtain ⟨y0, q0⟩ := hBz 0 _ rfl
      obtain ⟨y1, q1⟩ := hBz 1 _ rfl
      obtain ⟨y2, q2⟩ := hBz 2 _ rfl
      obtain ⟨y3, q3⟩ := hBz 3 _ rfl
      obtain ⟨y4, q4⟩ := hBz 4 _ rfl
      obtain ⟨y5, q5⟩ := hBz 5 _ rfl
      obtain ⟨y6, q6⟩ := hBz 6 _ rfl
      obtain ⟨ra, rc, rfl, _, _⟩ := hOs.form
      have HOK := hideD (jp_out (n := n) (sz := m) hBz hOs hbw HZ.out (by omega))
      clear hBs hOs hbw hBz hZS hBw
      go_wp2
      (try simp only [Exit.inBlock, Exit.then])
      refine bodyPost_ret (jparsed_res HOK.out.1 rfl) rfl ?_
      exact HOK.out.2
end Go.Proofs.Ytajhombbkdlegaa

/- The document's disk in memory; New, burn, find, Used. -/
namespace Go.Proofs.Ytajhombbkdlegaa
open Go.RowKit Go.Lib Go.Maps
set_option linter.unusedSimpArgs false
set_option linter.unusedVariables false
attribute [local go_sem ↓] Go.wp_at_zero Go.wp_at_succ

def celE (E : List (Int × Sv)) : List Value := E.flatMap fun x => [.int .i64 x.1, x.2.1, .int .i64 (x.2.2.2 : Int)]
theorem celE_cons (x : Int × Sv) (r : List (Int × Sv)) : celE (x :: r) = .int .i64 x.1 :: x.2.1 :: .int .i64 (x.2.2.2 : Int) :: celE r := rfl
theorem celE_at : ∀ {E : List (Int × Sv)} {i : Nat} (h : i < E.length), (celE E)[i * 3]? = some (.int .i64 (E[i]).1) ∧ (celE E)[i * 3 + 1]? = some (E[i]).2.1 ∧ (celE E)[i * 3 + 2]? = some (.int .i64 ((E[i]).2.2.2 : Int))
  | x :: r, 0, _ => ⟨rfl, rfl, rfl⟩
  | x :: r, i + 1, h => by
    have := celE_at (E := r) (i := i) (by simpa using h)
    rw [celE_cons]
    have e : (i + 1) * 3 = i * 3 + 3 := by omega
    rw [e]
    simpa using this
theorem oc_E {E : List (Int × Sv)} (h : ∀ x ∈ E, x.2.1.oneCell' = true) : ∀ u ∈ celE E, u.oneCell' = true := by
  intro u hu
  unfold celE at hu
  obtain ⟨x, hx, hu⟩ := List.mem_flatMap.1 hu
  simp only [List.mem_cons, List.not_mem_nil, or_false] at hu
  rcases hu with rfl | rfl | rfl
  · rfl
  · exact h x hx
  · rfl
/-- The document's segments: a row of them, and their bytes. -/
structure QR (w : World) (Y : Nat) (G : Nat → Prop) (Lv : Value) (E : List (Int × Sv)) : Prop where
  r : Ris E
  o : w.ownsRow 0 90 3 Lv E.length (celE E)
  oo : ∀ g, Lv.ownBlock = some g → G g ∧ g ≠ Y
  s : ∀ x ∈ E, Own w 0 5 x.2.1 x.2.2.1 ∧ ∀ q, x.2.1.ownBlock = some q → G q ∧ q ≠ Y ∧ Lv.ownBlock ≠ some q
theorem QR.keep {w w' : World} {Y : Nat} {G H : Nat → Prop} {Lv : Value} {E : List (Int × Sv)} (h : QR w Y G Lv E) (hk : ∀ b, G b → b ≠ Y → b < w.heap.size → w'.heap[b]? = w.heap[b]?) (hGH : ∀ j, j < w.heap.size → G j → H j) : QR w' Y H Lv E :=
  ⟨h.r, ownsRow_keep h.o (fun g hg => hk g (h.oo g hg).1 (h.oo g hg).2 (ownsRow_lt h.o g hg).2), fun g hg => ⟨hGH g (ownsRow_lt h.o g hg).2 (h.oo g hg).1, (h.oo g hg).2⟩,
    fun x hx => ⟨ownD_keep (h.s x hx).1 (fun g hg => hk g ((h.s x hx).2 g hg).1 ((h.s x hx).2 g hg).2.1 (ownsRow_lt (h.s x hx).1 g hg).2), fun g hg => ⟨hGH g (ownsRow_lt (h.s x hx).1 g hg).2 ((h.s x hx).2 g hg).1, ((h.s x hx).2 g hg).2⟩⟩⟩
theorem QR.on {w w' : World} {Y : Nat} {G : Nat → Prop} {Lv : Value} {E : List (Int × Sv)} (h : QR w Y G Lv E) (hb : Below w.heap.size w w') : QR w' Y G Lv E := h.keep (fun b _ _ hlt => hb.block b hlt) (fun _ _ h => h)
theorem QR.setY {w : World} {Y i : Nat} {G : Nat → Prop} {Lv : Value} {E : List (Int × Sv)} (h : QR w Y G Lv E) (u : Value) : QR (w.setCell ⟨Y, i, none⟩ u) Y G Lv E := h.keep (fun b _ hne _ => Below.heap_setCell _ _ _ _ (fun e => hne e)) (fun _ _ h => h)
/-- A segment's cells. -/
theorem QR.at {w : World} {Y : Nat} {G : Nat → Prop} {Lv : Value} {E : List (Int × Sv)} (h : QR w Y G Lv E) {i : Nat} (hi : i < E.length) : ∃ g cap, Lv = .slice (some ⟨g, 0, none⟩) E.length cap ∧ E.length ≤ cap ∧ cap ≤ maxLen ∧ g < w.heap.size ∧
    w.cell? ⟨g, i * 3, none⟩ = some (.int .i64 (E[i]).1) ∧ w.cell? ⟨g, i * 3 + 1, none⟩ = some (E[i]).2.1 ∧ w.cell? ⟨g, i * 3 + 2, none⟩ = some (.int .i64 ((E[i]).2.2.2 : Int)) := by
  have hc := fun g => World.ownsRow.cells h.o (g := g)
  obtain ⟨c0, c1, c2⟩ := celE_at hi
  rcases h.o.2 with ⟨_, h2⟩ | ⟨g, cap, cur, e, _, hg, h3, h4, _⟩
  · omega
  · have d0 := hc g (by rw [e]; rfl) _ _ c0
    have d1 := hc g (by rw [e]; rfl) _ _ c1
    have d2 := hc g (by rw [e]; rfl) _ _ c2
    rw [add_plain, Nat.zero_add] at d0 d1 d2
    exact ⟨g, cap, e, h3, h4, (Array.getElem?_eq_some_iff.1 hg).1, d0, d1, d2⟩
theorem QR.form {w : World} {Y : Nat} {G : Nat → Prop} {Lv : Value} {E : List (Int × Sv)} (h : QR w Y G Lv E) : ∃ a cap, Lv = .slice a E.length cap ∧ E.length ≤ cap ∧ cap ≤ maxLen := by
  rcases h.o.2 with ⟨h1, h2⟩ | ⟨g, cap, cur, h1, _, _, h3, h4, _⟩
  · exact ⟨none, 0, by rw [h1, h2], by omega, by simp [maxLen]⟩
  · exact ⟨_, _, h1, h3, h4⟩
/-- The document's disk in block Y, its memory in blocks of G. -/
def QDE (w : World) (Y : Nat) (G : Nat → Prop) (d : Dk) (Lv : Value) (E : List (Int × Sv)) : Prop := G Y ∧ mmE E = d.L ∧ QR w Y G Lv E ∧ Bn w Y [Lv, .int .i64 d.room, .int .i64 d.fuse, .bool d.dead]
def QD (w : World) (Y : Nat) (G : Nat → Prop) (d : Dk) : Prop := ∃ Lv E, QDE w Y G d Lv E
theorem QDE.keep {w w' : World} {Y : Nat} {G H : Nat → Prop} {d : Dk} {Lv : Value} {E : List (Int × Sv)} (h : QDE w Y G d Lv E) (hk : ∀ b, G b → b < w.heap.size → w'.heap[b]? = w.heap[b]?) (hGH : ∀ j, j < w.heap.size → G j → H j) : QDE w' Y H d Lv E :=
  ⟨hGH Y h.2.2.2.lt h.1, h.2.1, h.2.2.1.keep (fun b hb _ hlt => hk b hb hlt) hGH, h.2.2.2.blk (hk Y h.1 h.2.2.2.lt)⟩
theorem QDE.on {w w' : World} {Y : Nat} {G : Nat → Prop} {d : Dk} {Lv : Value} {E : List (Int × Sv)} (h : QDE w Y G d Lv E) (hb : Below w.heap.size w w') : QDE w' Y G d Lv E := h.keep (fun b _ hlt => hb.block b hlt) (fun _ _ h => h)
theorem QDE.clip {w : World} {Y : Nat} {G : Nat → Prop} {d : Dk} {Lv : Value} {E : List (Int × Sv)} (h : QDE w Y G d Lv E) : QDE w Y (cF G w) d Lv E := h.keep (fun _ _ _ => rfl) (fun j hj hG => ⟨hG, hj⟩)
theorem QD.keep {w w' : World} {Y : Nat} {G H : Nat → Prop} {d : Dk} (h : QD w Y G d) (hk : ∀ b, G b → b < w.heap.size → w'.heap[b]? = w.heap[b]?) (hGH : ∀ j, j < w.heap.size → G j → H j) : QD w' Y H d := by
  obtain ⟨Lv, E, h⟩ := h
  exact ⟨Lv, E, h.keep hk hGH⟩
theorem QD.lt {w : World} {Y : Nat} {G : Nat → Prop} {d : Dk} (h : QD w Y G d) : Y < w.heap.size := by
  obtain ⟨Lv, E, h⟩ := h
  exact h.2.2.2.lt

theorem QDE.us {w : World} {Y : Nat} {G : Nat → Prop} {d : Dk} {Lv : Value} {E : List (Int × Sv)} (h : QDE w Y G d Lv E) : mmE E = d.L := h.2.1


/-- All cells of the row. -/
theorem QR.cells {w : World} {Y g cap n : Nat} {G : Nat → Prop} {E : List (Int × Sv)} (h : QR w Y G (.slice (some ⟨g, 0, none⟩) n cap) E) : ∀ j u, (celE E)[j]? = some u → w.cell? ⟨g, j, none⟩ = some u := fun j u hj => by
  have := World.ownsRow.cells h.o (g := g) rfl j u hj
  rwa [add_plain, Nat.zero_add] at this
theorem QR.one {w : World} {Y : Nat} {G : Nat → Prop} {Lv : Value} {E : List (Int × Sv)} (h : QR w Y G Lv E) : ∀ u ∈ celE E, u.oneCell' = true := oc_E (fun x hx => by
  obtain ⟨a, c, e, _, _⟩ := slice_form (h.s x hx).1
  rw [e]
  rfl)






end Go.Proofs.Ytajhombbkdlegaa

/- The document's disk: Append. -/
namespace Go.Proofs.Ytajhombbkdlegaa
open Go.RowKit Go.Lib Go.Maps
set_option linter.unusedSimpArgs false
set_option linter.unusedVariables false


theorem crL_ris {kp : Nat → Int} : ∀ {l : List (Int × Sm)} {i : Nat}, Ris l → Ris (crL kp i l)
  | [], _, _ => List.Pairwise.nil
  | x :: r, i, h => by
    obtain ⟨h1, h2⟩ := List.pairwise_cons.1 h
    rw [crL_cons]
    split
    · exact crL_ris h2
    · refine List.pairwise_cons.2 ⟨fun a ha => ?_, crL_ris h2⟩
      obtain ⟨y, hy, e⟩ := crL_mem ha
      rw [e]
      exact h1 y hy
end Go.Proofs.Ytajhombbkdlegaa

/- The document's disk: Crash. -/
namespace Go.Proofs.Ytajhombbkdlegaa
open Go.RowKit Go.Lib Go.Maps
set_option linter.unusedSimpArgs false
set_option linter.unusedVariables false
attribute [local go_sem ↓] Go.wp_at_zero Go.wp_at_succ

end Go.Proofs.Ytajhombbkdlegaa

/- Two disks side by side; what a call of the law's leaves. -/
namespace Go.Proofs.Ytajhombbkdlegaa
open Go.RowKit Go.Lib Go.Maps
set_option linter.unusedSimpArgs false
set_option linter.unusedVariables false

/-- The program's disk d in block X, the document's disk e in block Y, in memory apart, all of it in blocks of A. -/
def T2 (w : World) (A : Nat → Prop) (X Y : Nat) (d e : Dk) : Prop := ∃ F G : Nat → Prop, PD w X F d ∧ QD w Y G e ∧ (∀ j, F j → A j ∧ j < w.heap.size ∧ ¬ G j) ∧ ∀ j, G j → A j ∧ j < w.heap.size
theorem PD.clip {w : World} {X : Nat} {F : Nat → Prop} {d : Dk} (h : PD w X F d) : PD w X (cF F w) d := h.mono (fun j hj hF => ⟨hF, hj⟩)
theorem QD.clip {w : World} {Y : Nat} {G : Nat → Prop} {d : Dk} (h : QD w Y G d) : QD w Y (cF G w) d := h.keep (fun _ _ _ => rfl) (fun j hj hG => ⟨hG, hj⟩)
theorem QD.on {w w' : World} {Y : Nat} {G : Nat → Prop} {d : Dk} (h : QD w Y G d) (hb : Below w.heap.size w w') : QD w' Y G d := h.keep (fun b _ hlt => hb.block b hlt) (fun _ _ h => h)
theorem T2.keep {w w' : World} {A A' : Nat → Prop} {X Y : Nat} {d e : Dk} (h : T2 w A X Y d e) (hs : w.heap.size ≤ w'.heap.size) (hk : ∀ j, A j → j < w.heap.size → w'.heap[j]? = w.heap[j]?) (hA : ∀ j, j < w.heap.size → A j → A' j) : T2 w' A' X Y d e := by
  obtain ⟨F, G, h1, h2, h3, h4⟩ := h
  exact ⟨F, G, h1.keep (fun b hb hlt => hk b (h3 b hb).1 hlt), h2.keep (fun b hb hlt => hk b (h4 b hb).1 hlt) (fun _ _ h => h), fun j hj => by have := h3 j hj; exact ⟨hA j this.2.1 this.1, by omega, this.2.2⟩, fun j hj => by have := h4 j hj; exact ⟨hA j this.2 this.1, by omega⟩⟩
theorem T2.on {w w' : World} {A : Nat → Prop} {X Y : Nat} {d e : Dk} (h : T2 w A X Y d e) (hb : Below w.heap.size w w') : T2 w' A X Y d e := h.keep hb.size (fun j _ hlt => hb.block j hlt) (fun _ _ h => h)
/-- What is new is none of theirs. -/
theorem T2.but {w : World} {A : Nat → Prop} {X Y : Nat} {d e : Dk} (h : T2 w A X Y d e) {N : Nat} (hN : w.heap.size ≤ N) : T2 w (fun j => A j ∧ j ≠ N) X Y d e := h.keep (Nat.le_refl _) (fun _ _ _ => rfl) (fun j hj hA => ⟨hA, by omega⟩)
theorem T2.x {w : World} {A : Nat → Prop} {X Y : Nat} {d e : Dk} (h : T2 w A X Y d e) : A X ∧ X < w.heap.size := by
  obtain ⟨F, G, h1, h2, h3, h4⟩ := h
  obtain ⟨mv, E, fz, q1, _⟩ := h1
  exact ⟨(h3 X q1).1, (h3 X q1).2.1⟩
theorem T2.y {w : World} {A : Nat → Prop} {X Y : Nat} {d e : Dk} (h : T2 w A X Y d e) : A Y ∧ Y < w.heap.size := by
  obtain ⟨F, G, h1, h2, h3, h4⟩ := h
  obtain ⟨Lv, E, q1, _⟩ := h2
  exact h4 Y q1
theorem pt_len_of {β : Type} {n : Int} {b s : β} : ∀ {l : List (Int × β)}, Ris l → lk n l = some s → (pt n b l).length = l.length
  | [], _, h => by simp [lk] at h
  | y :: r, hs, h => by
    obtain ⟨h1, h2⟩ := List.pairwise_cons.1 hs
    unfold lk at h
    unfold pt
    by_cases he : y.1 = n
    · rw [if_neg (by omega), if_pos he]
      rfl
    · rw [if_neg he] at h
      have hm := h1 _ (lk_mem h)
      simp only at hm
      rw [if_neg (by omega), if_neg he, List.length_cons, List.length_cons, pt_len_of h2 h]
/-- Bytes as bytes are, and bounds. -/
structure Ok (d : Dk) (n u : Nat) : Prop where
  r : Ris d.L
  s : ∀ x ∈ d.L, x.2.2 ≤ x.2.1.length ∧ (Lit.int .i64 x.1).wf = true
  room : 0 ≤ d.room ∧ d.room ≤ 9223372036854775807
  fuse : -1 ≤ d.fuse ∧ d.fuse ≤ 9223372036854775807
  len : d.L.length ≤ n
  us : usM d.L ≤ u
theorem Ok.mono {d : Dk} {n u n' u' : Nat} (h : Ok d n u) (h1 : n ≤ n') (h2 : u ≤ u') : Ok d n' u' := ⟨h.r, h.s, h.room, h.fuse, Nat.le_trans h.len h1, Nat.le_trans h.us h2⟩
theorem Ok.L {d e : Dk} {n u : Nat} (h : Ok d n u) (h1 : e.L = d.L) (h2 : e.room = d.room) (h3 : -1 ≤ e.fuse ∧ e.fuse ≤ 9223372036854775807) : Ok e n u := by
  constructor
  · rw [h1]; exact h.r
  · rw [h1]; exact h.s
  · rw [h2]; exact h.room
  · exact h3
  · rw [h1]; exact h.len
  · rw [h1]; exact h.us
theorem brn_fuse {d : Dk} (h : -1 ≤ d.fuse ∧ d.fuse ≤ 9223372036854775807) : -1 ≤ (brn d).fuse ∧ (brn d).fuse ≤ 9223372036854775807 := by
  unfold brn
  split
  · exact h
  · split
    · simp only
      omega
    · exact h
theorem Ok.brn {d : Dk} {n u : Nat} (h : Ok d n u) : Ok (brn d) n u := h.L (brn_L d).1 (brn_L d).2 (brn_fuse h.fuse)
theorem ok_new (n : Int) (hn : n ≤ 9223372036854775807) : Ok ⟨[], max n 0, -1, false⟩ 0 0 := ⟨List.Pairwise.nil, fun x hx => absurd hx (by simp), by simp only; omega, by simp, by simp, by simp [usM]⟩
theorem Ok.app {d : Dk} {n u : Nat} (h : Ok d n u) {k : Int} (hk : (Lit.int .i64 k).wf = true) (bs : List Int) : Ok (appD d k bs).1 (n + 1) (u + bs.length) := by
  unfold appD
  split
  · exact h.mono (by omega) (by omega)
  · split
    · exact h.mono (by omega) (by omega)
    · split
      · exact h.mono (by omega) (by omega)
      · split
        · exact h.brn.mono (by omega) (by omega)
        · have h1 := pt_len k (((lk k d.L).getD ([], 0)).1 ++ bs, ((lk k d.L).getD ([], 0)).2) d.L
          have h2 := usM_app (n := k) (bs := bs) h.r (show (lk k d.L).getD ([], 0) = (((lk k d.L).getD ([], 0)).1, ((lk k d.L).getD ([], 0)).2) from rfl)
          have h3 := h.len
          have h4 := h.us
          refine ⟨ris_pt h.r, fun x hx => ?_, by show 0 ≤ (_root_.Go.Proofs.Ytajhombbkdlegaa.brn d).room ∧ (_root_.Go.Proofs.Ytajhombbkdlegaa.brn d).room ≤ _; rw [(brn_L d).2]; exact h.room, brn_fuse h.fuse, by simp only; omega, by simp only; omega⟩
          rcases mem_pt h.r hx with rfl | ⟨hx, _⟩
          · refine ⟨?_, hk⟩
            simp only [List.length_append]
            cases hl : lk k d.L with
            | none => simp
            | some s =>
              have := (h.s _ (lk_mem hl)).1
              simp only at this
              simp only [Option.getD_some]
              omega
          · exact h.s x hx
theorem Ok.syn {d : Dk} {n u : Nat} (h : Ok d n u) {k : Int} (hk : (Lit.int .i64 k).wf = true) : Ok (opM d k (synF d k)).1 n u := by
  unfold opM
  split
  · exact h
  · cases hl : lk k d.L with
    | none => exact h
    | some s =>
      simp only
      split
      · exact h.brn
      · have h2 := usM_syn (k := s.1.length) h.r hl
        have h3 := h.us
        refine ⟨ris_pt h.r, fun x hx => ?_, by show 0 ≤ (_root_.Go.Proofs.Ytajhombbkdlegaa.brn d).room ∧ (_root_.Go.Proofs.Ytajhombbkdlegaa.brn d).room ≤ _; rw [(brn_L d).2]; exact h.room, brn_fuse h.fuse, ?_, by show usM (pt k _ d.L) ≤ u; omega⟩
        · rcases mem_pt h.r hx with rfl | ⟨hx, _⟩
          · exact ⟨Nat.le_refl _, hk⟩
          · exact h.s x hx
        · show (pt k (s.1, s.1.length) d.L).length ≤ n
          rw [pt_len_of h.r hl]
          exact h.len
theorem Ok.drp {d : Dk} {n u : Nat} (h : Ok d n u) (k : Int) : Ok (opM d k (drpF d k)).1 n u := by
  unfold opM
  split
  · exact h
  · cases hl : lk k d.L with
    | none => exact h
    | some s =>
      simp only
      split
      · exact h.brn
      · have h2 := (usM_del h.r hl).1
        have h3 := h.us
        have h4 := dl_len k d.L
        have h5 := h.len
        exact ⟨ris_dl h.r, fun x hx => h.s x (mem_dl.1 hx).1, by show 0 ≤ (_root_.Go.Proofs.Ytajhombbkdlegaa.brn d).room ∧ (_root_.Go.Proofs.Ytajhombbkdlegaa.brn d).room ≤ _; rw [(brn_L d).2]; exact h.room, brn_fuse h.fuse, by show (dl k d.L).length ≤ n; omega, by show usM (dl k d.L) ≤ u; omega⟩
theorem crL_ok {kp : Nat → Int} : ∀ {l : List (Int × Sm)} {i : Nat} {a : Int × Sm}, (∀ x ∈ l, x.2.2 ≤ x.2.1.length) → a ∈ crL kp i l → a.2.2 ≤ a.2.1.length
  | [], i, a, _, h => by simp [crL] at h
  | x :: r, i, a, hs, h => by
    rw [crL_cons] at h
    have hx := kpN_le (kp i) (hs x List.mem_cons_self)
    split at h
    · exact crL_ok (fun y hy => hs y (List.mem_cons_of_mem _ hy)) h
    · rcases List.mem_cons.1 h with rfl | h
      · simp only [List.length_take]
        omega
      · exact crL_ok (fun y hy => hs y (List.mem_cons_of_mem _ hy)) h
theorem Ok.cr {d : Dk} {n u : Nat} (h : Ok d n u) (ls : List Int) : Ok (crD d ls) n u := by
  obtain ⟨h1, h2⟩ := crL_us (kp := kpA ls) 0 (fun x hx => (h.s x hx).1)
  have h3 := h.us
  have h4 := h.len
  refine ⟨crL_ris h.r, fun x hx => ⟨crL_ok (fun x hx => (h.s x hx).1) hx, ?_⟩, h.room, by simp [crD], by show (crL _ _ _).length ≤ n; omega, by show usM (crL _ _ _) ≤ u; omega⟩
  obtain ⟨y, hy, e⟩ := crL_mem hx
  rw [e]
  exact (h.s y hy).2
theorem Ok.spo {d : Dk} {n u : Nat} (h : Ok d n u) {k : Int} (hk : (Lit.int .i64 k).wf = true) (a b : Int) : Ok (spoD d k a b).1 n u := by
  unfold spoD
  split
  · exact h
  · rename_i hc
    cases hl : lk k d.L with
    | none =>
      rw [hl] at hc
      simp only [Option.getD_none, List.length_nil] at hc
      omega
    | some s =>
      simp only [Option.getD_some]
      have h2 := usM_pt k ((s.1.set a.toNat (xrB (s.1.getD a.toNat 0) b)), s.2) h.r
      rw [hl] at h2
      simp only [Option.getD_some, List.length_set] at h2
      have h3 := h.us
      refine ⟨ris_pt h.r, fun x hx => ?_, h.room, h.fuse, ?_, by simp only; omega⟩
      · rcases mem_pt h.r hx with rfl | ⟨hx, _⟩
        · refine ⟨?_, hk⟩
          simp only [List.length_set]
          exact (h.s _ (lk_mem hl)).1
        · exact h.s x hx
      · simp only
        rw [pt_len_of h.r hl]
        exact h.len

/-- What a call leaves. -/
def doD (d : Dk) (x : OpM) : Dk :=
  if x.kind = 1 then (appD d x.a x.bs).1 else if x.kind = 2 then (opM d x.a (synF d x.a)).1 else if x.kind = 3 then (opM d x.a (drpF d x.a)).1
  else if x.kind = 5 then { d with fuse := max x.a (-1) } else if x.kind = 6 then { d with room := max x.a 0 } else if x.kind = 7 then crD d x.ls else if x.kind = 8 then (spoD d x.a x.b x.y).1 else d
theorem wf_in {k : Int} (h : (Lit.int .i64 k).wf = true) : -9223372036854775808 ≤ k ∧ k ≤ 9223372036854775807 := by simpa [Lit.wf, IntKind.min, IntKind.max, IntKind.signed, IntKind.bits] using h
theorem Ok.do {d : Dk} {n u : Nat} (h : Ok d n u) {x : OpM} (hx : WfO x) : Ok (doD d x) (n + 1) (u + x.bs.length) := by
  have hm := fun (e : Dk) (k : Ok e n u) => k.mono (show n ≤ n + 1 by omega) (show u ≤ u + x.bs.length by omega)
  have ha := wf_in hx.a
  unfold doD
  split
  · exact h.app hx.a _
  split
  · exact hm _ (h.syn hx.a)
  split
  · exact hm _ (h.drp _)
  split
  · exact hm _ (h.L rfl rfl (by simp only; omega))
  split
  · exact hm _ ⟨h.r, h.s, by simp only; omega, h.fuse, h.len, h.us⟩
  split
  · exact hm _ (h.cr _)
  split
  · exact hm _ (h.spo hx.a _ _)
  · exact hm _ h
end Go.Proofs.Ytajhombbkdlegaa
