import Derived.Test.YtpblcahcpobicaaXmc07
import Derived.Test.YtpblcahcpobicaaXmc05

/- The journal: a segment parsed. -/
namespace Go.Proofs.Ytpblcahcpobicaa
open Go.RowKit Go.Lib Go.Maps
set_option linter.unusedSimpArgs false
set_option linter.unusedVariables false
set_option maxRecDepth 100000
attribute [local go_sem ↓] Go.wp_at_zero Go.wp_at_succ

abbrev set7 (w : World) (R : Nat) (u0 u1 u2 u3 u4 u5 u6 : Value) : World := ((((((w.setCell ⟨R, 0, none⟩ u0).setCell ⟨R, 1, none⟩ u1).setCell ⟨R, 2, none⟩ u2).setCell ⟨R, 3, none⟩ u3).setCell ⟨R, 4, none⟩ u4).setCell ⟨R, 5, none⟩ u5).setCell ⟨R, 6, none⟩ u6
theorem bn7 {w : World} {R : Nat} {a0 a1 a2 a3 a4 a5 a6 : Value} (h : Bn w R [a0, a1, a2, a3, a4, a5, a6]) (u0 u1 u2 u3 u4 u5 u6 : Value) : Bn (set7 w R u0 u1 u2 u3 u4 u5 u6) R [u0, u1, u2, u3, u4, u5, u6] :=
  ((((((h.set (i := 0) (by simp) u0).set (i := 1) (by simp) u1).set (i := 2) (by simp) u2).set (i := 3) (by simp) u3).set (i := 4) (by simp) u4).set (i := 5) (by simp) u5).set (i := 6) (by simp) u6
theorem heap7 (w : World) {R k : Nat} (h : k ≠ R) (u0 u1 u2 u3 u4 u5 u6 : Value) : (set7 w R u0 u1 u2 u3 u4 u5 u6).heap[k]? = w.heap[k]? := by
  unfold set7
  repeat rw [Below.heap_setCell _ _ _ _ (fun e => h e)]
theorem below7 {B R : Nat} {u w : World} (h : Below B u w) (hR : B ≤ R) (u0 u1 u2 u3 u4 u5 u6 : Value) : Below B u (set7 w R u0 u1 u2 u3 u4 u5 u6) :=
  ((((((h.setCell (p := ⟨R, 0, none⟩) hR u0).setCell (p := ⟨R, 1, none⟩) hR u1).setCell (p := ⟨R, 2, none⟩) hR u2).setCell (p := ⟨R, 3, none⟩) hR u3).setCell (p := ⟨R, 4, none⟩) hR u4).setCell (p := ⟨R, 5, none⟩) hR u5).setCell (p := ⟨R, 6, none⟩) hR u6
theorem jparsed_res {w : World} {R : Nat} {a0 a1 a2 a3 a4 a5 a6 : Value} {tmps : Array Value} (hR : Bn w R [a0, a1, a2, a3, a4, a5, a6]) (ht : tmps.getD 4 undef = .pointer (some ⟨R, 0, none⟩)) : (results Try.f60 tmps).run Try.prog w = .ok (.agg #[a0, a1, a2, a3, a4, a5, a6]) w := by
  have c0 := (hR 0 _ rfl).1
  have c1 := (hR 1 _ rfl).1
  have c2 := (hR 2 _ rfl).1
  have c3 := (hR 3 _ rfl).1
  have c4 := (hR 4 _ rfl).1
  have c5 := (hR 5 _ rfl).1
  have c6 := (hR 6 _ rfl).1
  have ht' : tmps[4]?.getD undef = .pointer (some ⟨R, 0, none⟩) := by simpa using ht
  simp [results, Try.results60, go_sem, ht', c0, c1, c2, c3, c4, c5, c6]
theorem OwnK.low' {w : World} {b b' e : Nat} {v : Value} {l : List (List Int)} (h : OwnK w b e 1 rBy v l) (hb : b' ≤ b) : OwnK w b' e 1 rBy v l := by
  obtain ⟨qs, h1, h2, h3⟩ := h
  refine ⟨qs, ?_, h2, fun i hi hi' => ⟨(h3 i hi hi').1, kp_By (h3 i hi hi').2 (fun k hk _ => ⟨⟨Nat.le_trans hb hk.1, hk.2⟩, rfl⟩)⟩⟩
  refine ⟨h1.1, ?_⟩
  rcases h1.2 with hn | ⟨g, cap, cur, e1, e2, e3⟩
  · exact .inl hn
  · exact .inr ⟨g, cap, cur, e1, Nat.le_trans hb e2, e3⟩
theorem ownK_blkJ {w : World} {b e : Nat} {v : Value} {l : List (List Int)} (h : OwnK w b e 1 rBy v l) : ∀ x, v.ownBlock = some x → b ≤ x ∧ x < w.heap.size := by
  obtain ⟨qs, h1, _⟩ := h
  exact ownsRow_lt h1
theorem jnum {sz : Int} {pl m a : Nat} (h1 : sz = (pl : Int) + 6) (h3 : pl + 6 ≤ m - a) (hm : m ≤ 1000000) : ∃ z : Nat, sz = (z : Int) ∧ ((z : Int)).toNat = z ∧ a + z ≤ m ∧ 0 < z ∧ Hid (IntKind.i64.wrap ((a : Int) + (z : Int)) = ((a + z : Nat) : Int)) :=
  ⟨pl + 6, by omega, by omega, by omega, by omega, hideD (by rw [IntKind.wrap_i64]; omega)⟩
theorem jmeas {x : Int} {m a z : Nat} (h : x = ((a + z : Nat) : Int)) (h2 : a + z ≤ m) (h3 : 0 < z) : m - (RowKit.intOf (.int .i64 x)).toNat < m - (RowKit.intOf (.int .i64 (a : Int))).toNat := by
  subst h
  simp only [RowKit.intOf]
  omega
theorem wrap64_iJ (n : Int) : wrap64 n = IntKind.i64.wrap n := by
  unfold wrap64
  rw [IntKind.wrap_i64]
/-- What parsed leaves. -/
def JpOut (w w' : World) (n sz : Int) (s : SgM) (e : Ending) : Prop := ∃ rv, e = .returned (.agg #[.int .i64 n, .int .i64 sz, rv, .bool s.begun, .bool s.ended, .bool s.torn, .bool s.wrong]) ∧ OwnK w' w.heap.size 41 1 rBy rv s.recs ∧ Below w.heap.size w w'
theorem jtake_some {w : World} {Z base lo pb pc pl : Nat} {n sz : Int} {a : Nat} {s s' : SgM} {rv : Value} {p : List Int} (hB : Bn w Z (sgC n sz rv s)) (ho : OwnK w base 41 1 rBy rv s.recs) (hZ : Z < base) (hbs : base ≤ w.heap.size)
    (hp : Own w lo 5 (.slice (some ⟨pb, 0, none⟩) pl pc) p) (hlo : base ≤ lo) (hrv : ∀ x, rv.ownBlock = some x → x < lo) (hbn : s.recs.length ≤ 1000000) (hpl : p.length = pl) (h1 : 1 ≤ pl) (ht : jTk s p (decide (a = 0)) = some s') :
    Calls Try.prog 74 #[.pointer (some ⟨Z, 0, none⟩), .slice (some ⟨pb, 0, none⟩) pl pc, .int .i64 (a : Int)] w fun e w' => e = .returned (.bool true) ∧
      ∃ rv', Bn w' Z (sgC n sz rv' s') ∧ OwnK w' base 41 1 rBy rv' s'.recs ∧ Kf (fun j => j = Z ∨ base ≤ j) w w' ∧ s'.recs.length ≤ s.recs.length + 1 := by
  unfold jTk at ht
  split at ht
  · rename_i h
    obtain rfl := Option.some.inj ht
    refine (jtake_0 hB ho hZ hbs hp hlo hrv hbn h.1 hpl (by omega)).mono ?_
    rintro e w' ⟨rfl, rv', h3, h4, h5⟩
    exact ⟨rfl, rv', h3, h4, h5, by simp⟩
  split at ht
  · rename_i h
    obtain rfl := Option.some.inj ht
    obtain ⟨e0, e1, e2⟩ := h
    have ha : a = 0 := of_decide_eq_true e2
    subst ha
    rw [hpl] at e1
    subst e1
    refine (jtake_1 hB hp e0 hpl).mono ?_
    rintro e w' ⟨rfl, h3, h4⟩
    exact ⟨rfl, rv, h3, ho.keep kp_By (fun k hk hlt => h4.block k hlt (fun e => by have e : k = Z := e; omega)), h4.mono (fun j hj => .inl hj), by simp⟩
  split at ht
  · rename_i h
    obtain rfl := Option.some.inj ht
    obtain ⟨e0, e1, e2, e3⟩ := h
    rw [hpl] at e1
    subst e1
    refine (jtake_2 hB hp e0 hpl e2 e3).mono ?_
    rintro e w' ⟨rfl, h3, h4⟩
    exact ⟨rfl, rv, h3, ho.keep kp_By (fun k hk hlt => h4.block k hlt (fun e => by have e : k = Z := e; omega)), h4.mono (fun j hj => .inl hj), by simp⟩
  · cases ht
theorem jp_out {w wr : World} {Z B : Nat} {n sz : Int} {s : SgM} {rv z0 z1 z2 z3 z4 z5 z6 : Value} (hBz : Bn wr Z [z0, z1, z2, z3, z4, z5, z6]) (hO : OwnK wr B 41 1 rBy rv s.recs) (hb : Below Z w wr) (hZ : w.heap.size = Z) (hB : Z < B) :
    Bn (set7 wr Z (.int .i64 n) (.int .i64 sz) rv (.bool s.begun) (.bool s.ended) (.bool s.torn) (.bool s.wrong)) Z [.int .i64 n, .int .i64 sz, rv, .bool s.begun, .bool s.ended, .bool s.torn, .bool s.wrong] ∧ JpOut w (set7 wr Z (.int .i64 n) (.int .i64 sz) rv (.bool s.begun) (.bool s.ended) (.bool s.torn) (.bool s.wrong)) n sz s (.returned (.agg #[.int .i64 n, .int .i64 sz, rv, .bool s.begun, .bool s.ended, .bool s.torn, .bool s.wrong])) := by
  refine ⟨bn7 hBz _ _ _ _ _ _ _, rv, rfl, ?_, ?_⟩
  · rw [hZ]
    exact OwnK.low' (hO.keep kp_By (fun k hk _ => heap7 wr (by omega) _ _ _ _ _ _ _)) (by omega)
  · rw [hZ]
    exact below7 hb (Nat.le_refl _) _ _ _ _ _ _ _
set_option maxHeartbeats 8000000 in
theorem jparsed_any {w : World} (n : Int) {v : Value} {b : List Int} (hr : Rd w v b) (hy : ∀ x ∈ b, 0 ≤ x ∧ x ≤ 255) (hl : b.length ≤ 1000000) :
    Calls Try.prog 60 #[.int .i64 n, v] w fun e w' => JpOut w w' n (b.length : Int) (jPrsB b) e := by
  obtain ⟨ba, bc, rfl, hbc, hbm, _⟩ := id hr
  obtain ⟨m, hm⟩ : ∃ k, b.length = k := ⟨_, rfl⟩
  have HM := hideD hm
  have HY := hideD hy
  have HR := hideD hr
  have H0 := hideD (show jPrs (m + 1) jSg0 0 (b.drop 0) = jPrsB b by unfold jPrsB; rw [hm]; rfl)
  obtain ⟨R, hR⟩ : ∃ k, jPrsB b = k := ⟨_, rfl⟩
  rw [hR] at H0 ⊢
  rw [hm] at hl hbc ⊢
  clear hr hy hR hm
  go_enter Try.func60, Try.ntmps60
  go_upto_region 3 with fail
  obtain ⟨w1, hw1⟩ : ∃ k, w.alloc (.cells #[.int .i64 0, .int .i64 0, .slice none 0 0, .bool false, .bool false, .bool false, .bool false] 77) = k := ⟨_, rfl⟩
  have hb1 : Below w.heap.size w w1 := by rw [← hw1]; exact (Below.refl _ _).alloc (Nat.le_refl _) _
  have hs1 : w1.heap.size = w.heap.size + 1 := by rw [← hw1]; simp
  have hR1 : Bn w1 w.heap.size [.int .i64 0, .int .i64 0, .slice none 0 0, .bool false, .bool false, .bool false, .bool false] := by rw [← hw1]; exact Bn.new w _ _ _ rfl
  rw [hw1]
  obtain ⟨w2, hw2⟩ : ∃ k, w1.alloc (.cells #[.int .i64 n, .int .i64 (m : Int), .slice none 0 0, .bool false, .bool false, .bool false, .bool false] 77) = k := ⟨_, rfl⟩
  have hb2 : Below w1.heap.size w1 w2 := by rw [← hw2]; exact (Below.refl _ _).alloc (Nat.le_refl _) _
  have hs2 : w2.heap.size = w.heap.size + 2 := by rw [← hw2]; simp; omega
  have hS2 : Bn w2 (w.heap.size + 1) (sgC n m (.slice none 0 0) jSg0) := by rw [← hw2]; exact Bn.new w1 _ _ _ hs1.symm
  rw [hw2]
  have hR2 := hR1.on hb2
  obtain ⟨B, hB⟩ : ∃ k, w.heap.size + 2 = k := ⟨_, rfl⟩
  have hK0 : Below w.heap.size w w2 := hb1.trans (hb2.mono (by omega))
  have hO2 : OwnK w2 B 41 1 rBy (.slice none 0 0) ([] : List (List Int)) := ownK_nil _ _ _ _ _
  have HB := hideD hB
  obtain ⟨S, hS⟩ : ∃ k, w.heap.size + 1 = k := ⟨_, rfl⟩
  obtain ⟨Z, hZ⟩ : ∃ k, w.heap.size = k := ⟨_, rfl⟩
  rw [hS] at hS2
  rw [hZ] at hR2 hK0
  have HS := hideD hS
  have HZ := hideD hZ
  have HI := hideD (show ∃ (f : Nat) (s : SgM) (rv : Value), (b.drop 0).length < f ∧ jPrs f s 0 (b.drop 0) = R ∧ s.recs.length ≤ 0 ∧ Bn w2 S (sgC n m rv s) ∧ OwnK w2 B 41 1 rBy rv s.recs ∧ (∃ z0 z1 z2 z3 z4 z5 z6, Bn w2 Z [z0, z1, z2, z3, z4, z5, z6]) ∧ Below Z w w2 ∧ B ≤ w2.heap.size from ⟨m + 1, jSg0, .slice none 0 0, by rw [List.drop_zero, HM.out]; omega, H0.out, by simp [jSg0], hS2, hO2, ⟨_, _, _, _, _, _, _, hR2⟩, hK0, by omega⟩)
  rw [hS, hZ]
  clear hb1 hs1 hR1 hw1 hb2 hs2 hS2 hw2 hR2 hK0 hO2 hB hS hZ H0
  go_loopw [6] (fun ix wr => ∃ (a : Nat), a ≤ m ∧ ix = .int .i64 (a : Int) ∧ Hid (∃ (f : Nat) (s : SgM) (rv : Value), (b.drop a).length < f ∧ jPrs f s a (b.drop a) = R ∧ s.recs.length ≤ a ∧ Bn wr S (sgC n m rv s) ∧ OwnK wr B 41 1 rBy rv s.recs ∧ (∃ z0 z1 z2 z3 z4 z5 z6, Bn wr Z [z0, z1, z2, z3, z4, z5, z6]) ∧ Below Z w wr ∧ B ≤ wr.heap.size)) (fun ix _ => m - (RowKit.intOf ix).toNat)
  case atStart => exact ⟨0, Nat.zero_le _, rfl, HI⟩
  case round =>
    clear HI
    obtain ⟨a, ha, rfl, HI⟩ := hrel
    obtain ⟨f, s, rv, hf, hp, hsl, hBs, hOs, ⟨z0, z1, z2, z3, z4, z5, z6, hBz⟩, hbw, hBw⟩ := HI.out
    clear HI
    have hZS : Z < S ∧ S < B := by have := HS.out; have := HZ.out; have := HB.out; omega
    have n1 : ¬ S = Z := by omega
    have n2 : ¬ Z = S := by omega
    by_cases hlt : a < m
    · have hbe := hbw
      obtain ⟨g, off, cap', e, _, _, _⟩ := HR.out.lies (by rw [HM.out]; omega)
      simp only [Value.slice.injEq] at e
      obtain ⟨rfl, _, rfl⟩ := e
      have hrw : Rd wr (.slice (some ⟨g, off, none⟩) m bc) b := by
        have h := rd_on HR.out (show Below w.heap.size w wr by rw [HZ.out]; exact hbw)
        rwa [HM.out] at h
      obtain ⟨sv, hsl1, hsr⟩ := cut_lo HM.out hrw (show a ≤ m by omega) (a : Int) rfl
      have hop := open_any sv (b.drop a) wr (hsr wr hrw) (fun x hx => HY.out x (List.mem_of_mem_drop hx))
      have hd0 : (b.drop a).length ≠ 0 := by rw [List.length_drop, HM.out]; omega
      have hdl : (b.drop a).length = m - a := by rw [List.length_drop, HM.out]
      have hos := fun h => openS_size (r := b.drop a) h
      have hgo := fun s' h ht => jPrs_go (s := s) (a := a) (s' := s') hf hd0 h ht
      have hto := fun h => jPrs_torn (s := s) (a := a) hf hd0 h
      have hba := fun h5 h => jPrs_bad (s := s) (a := a) hf hd0 h5 h
      have hno := fun h ht => jPrs_no (s := s) (a := a) hf hd0 h ht
      obtain ⟨o, hox⟩ : ∃ k, openS (b.drop a) = k := ⟨_, rfl⟩
      rw [hox] at hop hos hgo hto hba hno
      obtain ⟨p, sz, er⟩ := o
      simp only at hop hos hgo hto hba hno
      have i1 : (a : Int) < (m : Int) := by omega
      have i2 : (0 : Int) ≤ (a : Int) := by omega
      have hS0 := hideD hrw
      clear hrw hsr hox hd0
      go_upto_region 5 with (first
        | (go_at_call 73; refine hop.mono ?_; rintro e w3 ⟨u, rfl, ho3, hb3⟩; clear hop)
        | fail)
      have hBs3 := hBs.on hb3
      have hBz3 := hBz.on hb3
      have hOs3 := hOs.on kp_By hb3
      have hbw3 : Below Z w w3 := hbw.trans (hb3.mono (by omega))
      have hrv3 : ∀ x, rv.ownBlock = some x → x < wr.heap.size := fun x hx => (ownK_blkJ hOs x hx).2
      have hsz3 := hb3.size
      clear hBs hBz hOs hbw hbe
      obtain ⟨y0, q0⟩ := hBz3 0 _ rfl
      obtain ⟨y1, q1⟩ := hBz3 1 _ rfl
      obtain ⟨y2, q2⟩ := hBz3 2 _ rfl
      obtain ⟨y3, q3⟩ := hBz3 3 _ rfl
      obtain ⟨y4, q4⟩ := hBz3 4 _ rfl
      obtain ⟨y5, q5⟩ := hBz3 5 _ rfl
      obtain ⟨y6, q6⟩ := hBz3 6 _ rfl
      obtain ⟨x0, _⟩ := hBs3 0 _ rfl
      obtain ⟨x1, _⟩ := hBs3 1 _ rfl
      obtain ⟨x2, _⟩ := hBs3 2 _ rfl
      obtain ⟨x3, _⟩ := hBs3 3 _ rfl
      obtain ⟨x4, _⟩ := hBs3 4 _ rfl
      obtain ⟨x5, p5⟩ := hBs3 5 _ rfl
      obtain ⟨x6, p6⟩ := hBs3 6 _ rfl
      obtain ⟨ra, rc, rfl, _, _⟩ := id hOs3.form
      by_cases e5 : er = 5
      · have hR := (hto e5).symm.trans hp
        subst e5
        subst hR
        have HOK := hideD (jp_out (n := n) (sz := m) (s := { s with torn := true }) (hBz3.far (X := S) (i := 5) (by omega) (.bool true)) (hOs3.set kp_By (X := S) (i := 5) (by omega) (.bool true)) (hbw3.setCell (p := ⟨S, 5, none⟩) (by show Z ≤ S; omega) (.bool true)) HZ.out (by omega))
        clear hgo hto hba hno hos hp hBs3 hBz3 hOs3 hbw3 hrv3 ho3 hb3 hsz3 hf hZS hBw
        go_wp2
        (try simp only [Exit.inBlock, Exit.then])
        refine bodyPost_ret (jparsed_res HOK.out.1 rfl) rfl ?_
        exact HOK.out.2
      by_cases e0 : er = 0
      · subst e0
        obtain ⟨sz1, sz2, sz3⟩ := hos rfl
        obtain ⟨pl, hpl⟩ : ∃ k, p.length = k := ⟨_, rfl⟩
        rw [hpl] at sz1 sz2 sz3
        obtain ⟨pb, pc, rfl⟩ : ∃ pb pc, u = .slice (some ⟨pb, 0, none⟩) pl pc := by
          rcases ho3.2 with ⟨e, h0⟩ | ⟨q, cap, cur, e, _⟩
          · omega
          · exact ⟨q, cap, by rw [e, hpl]⟩
        cases ht : jTk s p (decide (a = 0)) with
        | none =>
          have hR := (hno rfl ht).symm.trans hp
          subst hR
          have htk := jtake_no (a := a) hBs3 ho3 hpl sz2 ht
          have HOK := hideD (jp_out (n := n) (sz := m) (s := { s with wrong := true }) (hBz3.far (X := S) (i := 6) (by omega) (.bool true)) (hOs3.set kp_By (X := S) (i := 6) (by omega) (.bool true)) (hbw3.setCell (p := ⟨S, 6, none⟩) (by show Z ≤ S; omega) (.bool true)) HZ.out (by omega))
          clear hgo hto hba hno hos hp hBs3 hBz3 hOs3 hbw3 hrv3 ho3 hb3 hsz3 hf hZS hBw ht e5 sz1 sz3 hpl hdl
          go_wp2_with (first
            | (go_at_call 74; refine htk.mono ?_; rintro e w4 ⟨rfl, rfl⟩; clear htk)
            | fail)
          (try simp only [Exit.inBlock, Exit.then])
          refine bodyPost_ret (jparsed_res HOK.out.1 rfl) rfl ?_
          exact HOK.out.2
        | some s' =>
          obtain ⟨f', g1, g2⟩ := hgo s' rfl ht
          have hR := g2.symm.trans hp
          have htk := jtake_some (a := a) hBs3 hOs3 (by omega) (by omega) ho3 (by omega) hrv3 (by omega) hpl sz2 ht
          rw [hdl] at sz3
          obtain ⟨z, hzi, hz, v2, v3, HWR⟩ := jnum sz1 sz3 hl
          subst hzi
          rw [hz, List.drop_drop] at g1 hR
          have hKz := hideD (show ∀ w4, Kf (fun j => j = S ∨ B ≤ j) w3 w4 → Bn w4 Z [z0, z1, z2, z3, z4, z5, z6] ∧ Below Z w w4 ∧ B ≤ w4.heap.size from fun w4 k => ⟨hBz3.blk (k.block Z hBz3.lt (fun e => by omega)), hbw3.trans (k.below (fun j hj => by omega) (by omega)), by have := k.size; omega⟩)
          have hlb := hideD (show (b.drop (a + z)).length < f' from g1)
          have HR' := hideD hR
          have hsl2 := hideD (show s.recs.length ≤ a ∧ a + z ≤ m ∧ 0 < z from ⟨hsl, v2, v3⟩)
          clear hgo hto hba hno hos hp hBs3 hBz3 hOs3 hbw3 hrv3 ho3 hb3 hf hZS hBw ht e5 g1 g2 hR hz hpl hdl sz1 sz2 sz3 hsl hsz3 v2 v3
          go_wp2_with (first
            | (go_at_call 74; refine htk.mono ?_; rintro e w4 ⟨rfl, rv', h1, h2, h3, h4⟩; clear htk; have HH := hideD (⟨h1, h2, h4, hKz.out w4 h3⟩ : _ ∧ _ ∧ _ ∧ _); clear h1 h2 h3 h4 hKz)
            | fail)
          go_roundw
          case rel =>
            obtain ⟨q1, q2, q3, q4, q5, q6⟩ := HH.out
            obtain ⟨v1, v2, v3⟩ := hsl2.out
            refine ⟨a + z, by omega, ?_, hideD ⟨f', s', rv', hlb.out, HR'.out, by omega, q1, q2, ⟨_, _, _, _, _, _, _, q4⟩, q5, q6⟩⟩
            exact congrArg (Value.int .i64) ((wrap64_iJ _).trans HWR.out)
          case measure =>
            obtain ⟨v1, v2, v3⟩ := hsl2.out
            exact jmeas ((wrap64_iJ _).trans HWR.out) v2 v3
      · have hR := (hba e5 e0).symm.trans hp
        subst hR
        have HOK := hideD (jp_out (n := n) (sz := m) (s := { s with wrong := true }) (hBz3.far (X := S) (i := 6) (by omega) (.bool true)) (hOs3.set kp_By (X := S) (i := 6) (by omega) (.bool true)) (hbw3.setCell (p := ⟨S, 6, none⟩) (by show Z ≤ S; omega) (.bool true)) HZ.out (by omega))
        clear hgo hto hba hno hos hp hBs3 hBz3 hOs3 hbw3 hrv3 ho3 hb3 hsz3 hf hZS hBw
        go_wp2
        (try simp only [Exit.inBlock, Exit.then])
        refine bodyPost_ret (jparsed_res HOK.out.1 rfl) rfl ?_
        exact HOK.out.2
    · have k1 : ¬ (a : Int) < (m : Int) := by omega
      have e : (b.drop a).length = 0 := by rw [List.length_drop, HM.out]; omega
      rw [jPrs_end e] at hp
      subst hp
      obtain ⟨x0, _⟩ := hBs 0 _ rfl
      obtain ⟨x1, _⟩ := hBs 1 _ rfl
      obtain ⟨x2, _⟩ := hBs 2 _ rfl
      obtain ⟨x3, _⟩ := hBs 3 _ rfl
      obtain ⟨x4, _⟩ := hBs 4 _ rfl
      obtain ⟨x5, _⟩ := hBs 5 _ rfl
      obtain ⟨x6, _⟩ := hBs 6 _ rfl
      obtain ⟨y0, q0⟩ := hBz 0 _ rfl
      obtain ⟨y1, q1⟩ := hBz 1 _ rfl
      obtain ⟨y2, q2⟩ := hBz 2 _ rfl
      obtain ⟨y3, q3⟩ := hBz 3 _ rfl
      obtain ⟨y4, q4⟩ := hBz 4 _ rfl
      obtain ⟨y5, q5⟩ := hBz 5 _ rfl
      obtain ⟨y6, q6⟩ := hBz 6 _ rfl
      obtain ⟨ra, rc, rfl, _, _⟩ := hOs.form
      have HOK := hideD (jp_out (n := n) (sz := m) hBz hOs hbw HZ.out (by omega))
      clear hBs hOs hbw hBz hZS hBw
      go_wp2
      (try simp only [Exit.inBlock, Exit.then])
      refine bodyPost_ret (jparsed_res HOK.out.1 rfl) rfl ?_
      exact HOK.out.2
end Go.Proofs.Ytpblcahcpobicaa
