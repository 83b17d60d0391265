import Derived.Test.YtpdhmjjmpofphaaDoorWtc03
import Derived.Test.YtpdhmjjmpofphaaDoorWtc04
import Derived.Test.YtpdhmjjmpofphaaDoorWtc01

/- The program's codeOf, Code. -/
namespace Go.Proofs.YtpdhmjjmpofphaaDoor
open Go.RowKit Go.Lib
set_option linter.unusedSimpArgs false
set_option linter.unusedVariables false
attribute [local go_sem ↓] Go.wp_at_zero Go.wp_at_succ
theorem as_nil_lit (w : World) : (Instr.typeAssert .nilIface 35 45 true).run Tryd.prog w = .ok (.tuple #[.agg #[.int .i64 0], .bool false]) w := by kernel_rfl
theorem as_nil_ref (w : World) : (Instr.typeAssert .nilIface 35 56 true).run Tryd.prog w = .ok (.tuple #[.agg #[.string ⟨#[]⟩], .bool false]) w := by kernel_rfl
theorem as_nil_not (w : World) : (Instr.typeAssert .nilIface 35 58 true).run Tryd.prog w = .ok (.tuple #[.agg #[.nilIface], .bool false]) w := by kernel_rfl
theorem as_nil_neg (w : World) : (Instr.typeAssert .nilIface 35 59 true).run Tryd.prog w = .ok (.tuple #[.agg #[.nilIface], .bool false]) w := by kernel_rfl
theorem as_nil_bin (w : World) : (Instr.typeAssert .nilIface 35 61 true).run Tryd.prog w = .ok (.tuple #[.agg #[.string ⟨#[]⟩, .nilIface, .nilIface], .bool false]) w := by kernel_rfl
attribute [local go_sem] as_nil_lit as_nil_ref as_nil_not as_nil_neg as_nil_bin as_lit_lit as_ref_lit as_ref_ref as_not_lit as_not_ref as_not_not as_neg_lit as_neg_ref as_neg_not as_neg_neg as_bin_lit as_bin_ref as_bin_not as_bin_neg as_bin_bin
def CdP (d : Nat) : Prop := ∀ (vs : List Vr) (t : T d) (vv : Value) (w : World), Cl d t → shrt 1000 d t = true → cnt d t ≤ 10000 → RdV w vv vs → vs.length ≤ 10000 →
  Calls Tryd.prog 16 #[exV d t, vv] w fun e w' => ∃ a n c, e = .returned (.slice a n c) ∧ OwnI w' w.heap.size 47 (.slice a n c) (cdC vs d t) ∧ Below w.heap.size w w'
theorem exV_ifc (d : Nat) (t : T d) (h : Cl d t) : Ifc (exV d t) := by
  cases d with
  | zero => exact Empty.elim t
  | succ d =>
    rcases h.cases with ⟨n, rfl⟩ | ⟨s, rfl⟩ | ⟨k, p, hk, rfl, hp⟩ | ⟨s, p, q, rfl, hp, hq⟩ | rfl
    · exact .inr ⟨_, _, rfl⟩
    · exact .inr ⟨_, _, rfl⟩
    · rcases hk with rfl | rfl
      · exact .inr ⟨_, _, rfl⟩
      · exact .inr ⟨_, _, rfl⟩
    · exact .inr ⟨_, _, rfl⟩
    · exact .inl rfl
set_option maxRecDepth 100000 in
set_option maxHeartbeats 4000000 in
theorem cd_lit (n : Int) (vv : Value) (hv : ∃ a n c, vv = .slice a n c) (w : World) : Calls Tryd.prog 16 #[.iface 45 (.agg #[.int .i64 n]), vv] w fun e w' => ∃ a k c, e = .returned (.slice a k c) ∧ OwnI w' w.heap.size 47 (.slice a k c) [(wPush, n)] ∧ Below w.heap.size w w' := by
  obtain ⟨va, vn, vc, rfl⟩ := hv
  have hal : Below w.heap.size w (w.alloc (.cells #[.int .i64 n] 45)) := (Below.refl _ _).alloc (Nat.le_refl _) _
  have hN := ownI_new (w.alloc (.cells #[.int .i64 n] 45)) 47 ⟨#[112, 117, 115, 104]⟩ n w.heap.size hal.size
  go_enter Tryd.func16, Tryd.ntmps16
  go_wp2
  go_ret
  exact ⟨_, _, _, rfl, by simpa [wPush] using hN, hal.alloc hal.size _⟩
set_option maxRecDepth 100000 in
set_option maxHeartbeats 4000000 in
theorem cd_ref (s : ByteArray) {vs : List Vr} {vv : Value} {w : World} (hv : RdV w vv vs) (hl : vs.length ≤ 10000) : Calls Tryd.prog 16 #[.iface 56 (.agg #[.string s]), vv] w fun e w' => ∃ a k c, e = .returned (.slice a k c) ∧ OwnI w' w.heap.size 47 (.slice a k c) [(wLoad, vix s vs 0)] ∧ Below w.heap.size w w' := by
  have hal : Below w.heap.size w (w.alloc (.cells #[.string s] 56)) := (Below.refl _ _).alloc (Nat.le_refl _) _
  have hc := numberOf_any (hv.below hal (Nat.le_refl _)) hl s
  obtain ⟨a, cap, rfl, hlc, hcm, _⟩ := hv.form
  obtain ⟨V, hV⟩ : ∃ V, vix s vs 0 = V := ⟨_, rfl⟩
  have hV1 := vix_ge s vs 0
  have hV2 := vix_lt s vs 0
  rw [hV] at hc hV1 hV2 ⊢
  clear hV hv
  have hN := fun w1 (b : w.heap.size ≤ w1.heap.size) => ownI_new w1 47 ⟨#[108, 111, 97, 100]⟩ V w.heap.size b
  go_enter Tryd.func16, Tryd.ntmps16
  go_wp2_with (first
    | (go_at_call 15; refine hc.mono ?_; rintro e w1 ⟨rfl, b1⟩)
    | fail)
  go_ret
  have hb1 := hal.trans (b1.mono hal.size)
  exact ⟨_, _, _, rfl, hN _ hb1.size, hb1.alloc hb1.size _⟩
set_option maxRecDepth 100000 in
set_option maxHeartbeats 4000000 in
theorem cd_one (k : Int) (hk : k = 3 ∨ k = 4) {x : Value} (hx : Ifc x) {vv : Value} (hvv : ∃ a n c, vv = .slice a n c) {w : World} {l : List Ins} (hle : l.length ≤ 50000)
    (hc : ∀ w1, Below w.heap.size w w1 → Calls Tryd.prog 16 #[x, vv] w1 fun e w' => ∃ a n c, e = .returned (.slice a n c) ∧ OwnI w' w1.heap.size 47 (.slice a n c) l ∧ Below w1.heap.size w1 w') :
    Calls Tryd.prog 16 #[.iface (if k = 3 then 58 else 59) (.agg #[x]), vv] w fun e w' => ∃ a n c, e = .returned (.slice a n c) ∧ OwnI w' w.heap.size 47 (.slice a n c) (l ++ [(if k = 3 then wNot else wNeg, 0)]) ∧ Below w.heap.size w w' := by
  obtain ⟨va, vn, vc, rfl⟩ := hvv
  have hsn := fun w1 s => srcI_new (tx := 30) Tryd.underlying30 w1 s 0
  rcases hk with rfl | rfl
  · simp only [if_true]
    have hal : Below w.heap.size w (w.alloc (.cells #[x] 58)) := (Below.refl _ _).alloc (Nat.le_refl _) _
    have hc1 := hc _ hal
    rcases hx with rfl | ⟨u, y, rfl⟩
    all_goals (
      go_enter Tryd.func16, Tryd.ntmps16
      go_wp2_with (first
        | (go_at_call 16; refine hc1.mono ?_; rintro e w1 ⟨ra, rn, rc, rfl, ho, b1⟩; have hb1 := hal.trans (b1.mono hal.size); have hal2 : Below w1.heap.size w1 (w1.alloc (.cells #[.string ⟨#[110, 111, 116]⟩, .int .i64 0] 47)) := (Below.refl _ _).alloc (Nat.le_refl _) _; have ho2 := (ho.low hal.size).on hal2; have hb2 := hb1.trans (hal2.mono hb1.size); have s2 := hsn w1 ⟨#[110, 111, 116]⟩)
        | (at_builtin; refine appI rfl _ _ rfl w.heap.size _ l rfl ho2 _ [((⟨#[110, 111, 116]⟩ : ByteArray), (0 : Int))] rfl s2 (by simp; omega) hb2.size ?_; intro vf mf vg w5 HMF ho6 hg6 hat6)
        | fail)
      go_ret
      exact ⟨_, _, _, rfl, ho6, hb2.grown hg6 hb2.size (fun k hk => (ho2.lt k hk).1)⟩)
  · rw [if_neg (by decide), if_neg (by decide)]
    have hal : Below w.heap.size w (w.alloc (.cells #[x] 59)) := (Below.refl _ _).alloc (Nat.le_refl _) _
    have hc1 := hc _ hal
    rcases hx with rfl | ⟨u, y, rfl⟩
    all_goals (
      go_enter Tryd.func16, Tryd.ntmps16
      go_wp2_with (first
        | (go_at_call 16; refine hc1.mono ?_; rintro e w1 ⟨ra, rn, rc, rfl, ho, b1⟩; have hb1 := hal.trans (b1.mono hal.size); have hal2 : Below w1.heap.size w1 (w1.alloc (.cells #[.string ⟨#[110, 101, 103]⟩, .int .i64 0] 47)) := (Below.refl _ _).alloc (Nat.le_refl _) _; have ho2 := (ho.low hal.size).on hal2; have hb2 := hb1.trans (hal2.mono hb1.size); have s2 := hsn w1 ⟨#[110, 101, 103]⟩)
        | (at_builtin; refine appI rfl _ _ rfl w.heap.size _ l rfl ho2 _ [((⟨#[110, 101, 103]⟩ : ByteArray), (0 : Int))] rfl s2 (by simp; omega) hb2.size ?_; intro vf mf vg w5 HMF ho6 hg6 hat6)
        | fail)
      go_ret
      exact ⟨_, _, _, rfl, ho6, hb2.grown hg6 hb2.size (fun k hk => (ho2.lt k hk).1)⟩)
theorem two_apart {w3 w4 : World} {b1 b2 : Nat} {e : TypeId} {v u : Value} {l r : List Ins} (h1 : OwnI w3 b1 e v l) (h2 : OwnI w4 b2 e u r) (hle : w3.heap.size ≤ b2) : Apart v u := fun g hg hu => by
  have h3 := (h1.lt g hg).2
  have h4 := (h2.lt g hu).1
  omega
theorem cellI_dr {w : World} {p : Addr} {v : Value} (h : w.cell? p = some v) : w.drew.cell? p = some v := h
theorem Below.nxI {w wc w1 : World} (h : Below w.heap.size w wc) (b : Below wc.heap.size wc w1) : Below w.heap.size w w1 := h.trans (b.mono h.size)
theorem Below.nxdI {w wc w1 : World} (h : Below w.heap.size w wc) (b : Below wc.drew.heap.size wc.drew w1) : Below w.heap.size w w1 := (h.drew).trans (b.mono h.size)
theorem OwnI.dr {w : World} {base : Nat} {e : TypeId} {v : Value} {l : List Ins} (h : OwnI w base e v l) : OwnI w.drew base e v l := h
set_option maxRecDepth 100000 in
set_option maxHeartbeats 8000000 in
theorem cd_bin (s : ByteArray) (hsz : s.size ≤ 1000) {x y : Value} (hx : Ifc x) (hy : Ifc y) {vv : Value} (hvv : ∃ a n c, vv = .slice a n c) {w : World} {l r : List Ins} (hle : l.length + r.length ≤ 50000)
    (hc : ∀ w1, Below w.heap.size w w1 → Calls Tryd.prog 16 #[x, vv] w1 fun e w' => ∃ a n c, e = .returned (.slice a n c) ∧ OwnI w' w1.heap.size 47 (.slice a n c) l ∧ Below w1.heap.size w1 w')
    (hd : ∀ w1, Below w.heap.size w w1 → Calls Tryd.prog 16 #[y, vv] w1 fun e w' => ∃ a n c, e = .returned (.slice a n c) ∧ OwnI w' w1.heap.size 47 (.slice a n c) r ∧ Below w1.heap.size w1 w') :
    Calls Tryd.prog 16 #[.iface 61 (.agg #[.string s, x, y]), vv] w fun e w' => ∃ a n c, e = .returned (.slice a n c) ∧ OwnI w' w.heap.size 47 (.slice a n c) (binI s l r) ∧ Below w.heap.size w w' := by
  obtain ⟨va, vn, vc, rfl⟩ := hvv
  have hal : Below w.heap.size w (w.alloc (.cells #[.string s, x, y] 61)) := (Below.refl _ _).alloc (Nat.le_refl _) _
  have hX : Bn (w.alloc (.cells #[.string s, x, y] 61)) w.heap.size [.string s, x, y] := Bn.new w [.string s, x, y] 61 _ rfl
  rcases hx with rfl | ⟨u, x, rfl⟩
  · rcases hy with rfl | ⟨u', y, rfl⟩
    · go_enter Tryd.func16, Tryd.ntmps16
      go_upto_region 16 with fail
      generalize (w.alloc (.cells #[.string s, .nilIface, .nilIface] 61)) = wx at *
      obtain ⟨z0, _⟩ := hX 0 _ rfl
      obtain ⟨z1, _⟩ := hX 1 _ rfl
      obtain ⟨z2, _⟩ := hX 2 _ rfl
      have hXl := hX.lt
      have hcx : ∀ w1, Below wx.heap.size wx w1 → Calls Tryd.prog 16 #[.nilIface, .slice va vn vc] w1 fun e w' => ∃ a n c, e = .returned (.slice a n c) ∧ OwnI w' w1.heap.size 47 (.slice a n c) l ∧ Below w1.heap.size w1 w' := fun w1 b => hc w1 (hal.trans (b.mono hal.size))
      have hdx : ∀ w1, Below wx.heap.size wx w1 → Calls Tryd.prog 16 #[.nilIface, .slice va vn vc] w1 fun e w' => ∃ a n c, e = .returned (.slice a n c) ∧ OwnI w' w1.heap.size 47 (.slice a n c) r ∧ Below w1.heap.size w1 w' := fun w1 b => hd w1 (hal.trans (b.mono hal.size))
      have hwl : w.heap.size ≤ wx.heap.size := hal.size
      have hb : ∀ w1 la ln lc ra rn rc, OwnI w1 wx.heap.size 47 (.slice la ln lc) l → OwnI w1 wx.heap.size 47 (.slice ra rn rc) r → Apart (.slice la ln lc) (.slice ra rn rc) → wx.heap.size ≤ w1.heap.size → Calls Tryd.prog 29 #[.string s, .slice la ln lc, .slice ra rn rc] w1 fun e w' => ∃ a n c, e = .returned (.slice a n c) ∧ OwnI w' wx.heap.size 47 (.slice a n c) (binI s l r) ∧ Below wx.heap.size w1 w' := fun w1 la ln lc ra rn rc h1 h2 h3 h4 => binCode_any wx.heap.size s h1 h2 h3 hle h4 (by omega)
      clear hc hd hX
      obtain ⟨Xb, hXb⟩ : ∃ Xb, w.heap.size = Xb := ⟨_, rfl⟩
      rw [hXb] at z0 z1 z2 hXl hwl ⊢
      have HXB := hidI hXb
      have HAL := hidI hal
      clear hXb hal
      have hB := Below.refl wx.heap.size wx
      have y0 := z0
      have y1 := z1
      have y2 := z2
      go_region_held_law (fun w' => w'.cell? ⟨Xb, 0, none⟩ = some (.string s) ∧ w'.cell? ⟨Xb, 1, none⟩ = some (.nilIface) ∧ w'.cell? ⟨Xb, 2, none⟩ = some (.nilIface))
        ((refine ⟨?_, ?_, ?_⟩ <;> (repeat (first | (with_reducible exact y0) | (with_reducible exact y1) | (with_reducible exact y2) | (with_reducible refine cellI_dr ?_))) <;> done))
        (first
          | (go_at_call 29; (first | (with_reducible refine (hb _ _ _ _ _ _ _ hoL hoR hap hszB).mono ?_) | (with_reducible refine (hb _ _ _ _ _ _ _ hoL.dr hoR.dr hap hszB).mono ?_)); rintro e w7 ⟨ta, tn, tc, rfl, hoT, bT⟩; (first | have hB := hB.trans bT | have hB := hB.drew.trans bT); have y0 := (hB.cell (p := ⟨Xb, 0, none⟩) hXl).trans z0; have y1 := (hB.cell (p := ⟨Xb, 1, none⟩) hXl).trans z1; have y2 := (hB.cell (p := ⟨Xb, 2, none⟩) hXl).trans z2)
          | (go_at_call 16; (first | (with_reducible refine (hdx _ hB1).mono ?_) | (with_reducible refine (hdx _ hB1.drew).mono ?_)); rintro e w4 ⟨ra, rn, rc, rfl, hoR, bR⟩; have hap := two_apart hoL hoR (by simp); have hoR := hoR.low (lo := wx.heap.size) (by have h9 := hB1.size; (try simp only [World.drew] at h9 ⊢); omega); have hoL := hoL.on (w' := w4) (by first | exact bR | exact ((Below.refl _ _).drew).trans bR); (first | have hB := Below.nxI hB1 bR | have hB := Below.nxdI hB1 bR); have y0 := (hB.cell (p := ⟨Xb, 0, none⟩) hXl).trans z0; have y1 := (hB.cell (p := ⟨Xb, 1, none⟩) hXl).trans z1; have y2 := (hB.cell (p := ⟨Xb, 2, none⟩) hXl).trans z2; have hszB : wx.heap.size ≤ w4.heap.size := by have h9 := hB.size; omega)
          | (go_at_call 16; (first | (with_reducible refine (hcx _ hB).mono ?_) | (with_reducible refine (hcx _ hB.drew).mono ?_)); rintro e w3 ⟨la, ln, lc, rfl, hoL, bL⟩; have hoL := hoL.low (lo := wx.heap.size) (by have h9 := hB.size; (try simp only [World.drew] at h9 ⊢); omega); (first | have hB := Below.nxI hB bL | have hB := Below.nxdI hB bL); have hB1 := hB; have y0 := (hB.cell (p := ⟨Xb, 0, none⟩) hXl).trans z0; have y1 := (hB.cell (p := ⟨Xb, 1, none⟩) hXl).trans z1; have y2 := (hB.cell (p := ⟨Xb, 2, none⟩) hXl).trans z2)
          | fail)
      all_goals (
        go_wp2
        go_ret
        exact ⟨_, _, _, rfl, hoT.low HAL.out.size, HAL.out.trans (hB.mono HAL.out.size)⟩)
    · go_enter Tryd.func16, Tryd.ntmps16
      go_upto_region 16 with fail
      generalize (w.alloc (.cells #[.string s, .nilIface, .iface u' y] 61)) = wx at *
      obtain ⟨z0, _⟩ := hX 0 _ rfl
      obtain ⟨z1, _⟩ := hX 1 _ rfl
      obtain ⟨z2, _⟩ := hX 2 _ rfl
      have hXl := hX.lt
      have hcx : ∀ w1, Below wx.heap.size wx w1 → Calls Tryd.prog 16 #[.nilIface, .slice va vn vc] w1 fun e w' => ∃ a n c, e = .returned (.slice a n c) ∧ OwnI w' w1.heap.size 47 (.slice a n c) l ∧ Below w1.heap.size w1 w' := fun w1 b => hc w1 (hal.trans (b.mono hal.size))
      have hdx : ∀ w1, Below wx.heap.size wx w1 → Calls Tryd.prog 16 #[.iface u' y, .slice va vn vc] w1 fun e w' => ∃ a n c, e = .returned (.slice a n c) ∧ OwnI w' w1.heap.size 47 (.slice a n c) r ∧ Below w1.heap.size w1 w' := fun w1 b => hd w1 (hal.trans (b.mono hal.size))
      have hwl : w.heap.size ≤ wx.heap.size := hal.size
      have hb : ∀ w1 la ln lc ra rn rc, OwnI w1 wx.heap.size 47 (.slice la ln lc) l → OwnI w1 wx.heap.size 47 (.slice ra rn rc) r → Apart (.slice la ln lc) (.slice ra rn rc) → wx.heap.size ≤ w1.heap.size → Calls Tryd.prog 29 #[.string s, .slice la ln lc, .slice ra rn rc] w1 fun e w' => ∃ a n c, e = .returned (.slice a n c) ∧ OwnI w' wx.heap.size 47 (.slice a n c) (binI s l r) ∧ Below wx.heap.size w1 w' := fun w1 la ln lc ra rn rc h1 h2 h3 h4 => binCode_any wx.heap.size s h1 h2 h3 hle h4 (by omega)
      clear hc hd hX
      obtain ⟨Xb, hXb⟩ : ∃ Xb, w.heap.size = Xb := ⟨_, rfl⟩
      rw [hXb] at z0 z1 z2 hXl hwl ⊢
      have HXB := hidI hXb
      have HAL := hidI hal
      clear hXb hal
      have hB := Below.refl wx.heap.size wx
      have y0 := z0
      have y1 := z1
      have y2 := z2
      go_region_held_law (fun w' => w'.cell? ⟨Xb, 0, none⟩ = some (.string s) ∧ w'.cell? ⟨Xb, 1, none⟩ = some (.nilIface) ∧ w'.cell? ⟨Xb, 2, none⟩ = some (.iface u' y))
        ((refine ⟨?_, ?_, ?_⟩ <;> (repeat (first | (with_reducible exact y0) | (with_reducible exact y1) | (with_reducible exact y2) | (with_reducible refine cellI_dr ?_))) <;> done))
        (first
          | (go_at_call 29; (first | (with_reducible refine (hb _ _ _ _ _ _ _ hoL hoR hap hszB).mono ?_) | (with_reducible refine (hb _ _ _ _ _ _ _ hoL.dr hoR.dr hap hszB).mono ?_)); rintro e w7 ⟨ta, tn, tc, rfl, hoT, bT⟩; (first | have hB := hB.trans bT | have hB := hB.drew.trans bT); have y0 := (hB.cell (p := ⟨Xb, 0, none⟩) hXl).trans z0; have y1 := (hB.cell (p := ⟨Xb, 1, none⟩) hXl).trans z1; have y2 := (hB.cell (p := ⟨Xb, 2, none⟩) hXl).trans z2)
          | (go_at_call 16; (first | (with_reducible refine (hdx _ hB1).mono ?_) | (with_reducible refine (hdx _ hB1.drew).mono ?_)); rintro e w4 ⟨ra, rn, rc, rfl, hoR, bR⟩; have hap := two_apart hoL hoR (by simp); have hoR := hoR.low (lo := wx.heap.size) (by have h9 := hB1.size; (try simp only [World.drew] at h9 ⊢); omega); have hoL := hoL.on (w' := w4) (by first | exact bR | exact ((Below.refl _ _).drew).trans bR); (first | have hB := Below.nxI hB1 bR | have hB := Below.nxdI hB1 bR); have y0 := (hB.cell (p := ⟨Xb, 0, none⟩) hXl).trans z0; have y1 := (hB.cell (p := ⟨Xb, 1, none⟩) hXl).trans z1; have y2 := (hB.cell (p := ⟨Xb, 2, none⟩) hXl).trans z2; have hszB : wx.heap.size ≤ w4.heap.size := by have h9 := hB.size; omega)
          | (go_at_call 16; (first | (with_reducible refine (hcx _ hB).mono ?_) | (with_reducible refine (hcx _ hB.drew).mono ?_)); rintro e w3 ⟨la, ln, lc, rfl, hoL, bL⟩; have hoL := hoL.low (lo := wx.heap.size) (by have h9 := hB.size; (try simp only [World.drew] at h9 ⊢); omega); (first | have hB := Below.nxI hB bL | have hB := Below.nxdI hB bL); have hB1 := hB; have y0 := (hB.cell (p := ⟨Xb, 0, none⟩) hXl).trans z0; have y1 := (hB.cell (p := ⟨Xb, 1, none⟩) hXl).trans z1; have y2 := (hB.cell (p := ⟨Xb, 2, none⟩) hXl).trans z2)
          | fail)
      all_goals (
        go_wp2
        go_ret
        exact ⟨_, _, _, rfl, hoT.low HAL.out.size, HAL.out.trans (hB.mono HAL.out.size)⟩)
  · rcases hy with rfl | ⟨u', y, rfl⟩
    · go_enter Tryd.func16, Tryd.ntmps16
      go_upto_region 16 with fail
      generalize (w.alloc (.cells #[.string s, .iface u x, .nilIface] 61)) = wx at *
      obtain ⟨z0, _⟩ := hX 0 _ rfl
      obtain ⟨z1, _⟩ := hX 1 _ rfl
      obtain ⟨z2, _⟩ := hX 2 _ rfl
      have hXl := hX.lt
      have hcx : ∀ w1, Below wx.heap.size wx w1 → Calls Tryd.prog 16 #[.iface u x, .slice va vn vc] w1 fun e w' => ∃ a n c, e = .returned (.slice a n c) ∧ OwnI w' w1.heap.size 47 (.slice a n c) l ∧ Below w1.heap.size w1 w' := fun w1 b => hc w1 (hal.trans (b.mono hal.size))
      have hdx : ∀ w1, Below wx.heap.size wx w1 → Calls Tryd.prog 16 #[.nilIface, .slice va vn vc] w1 fun e w' => ∃ a n c, e = .returned (.slice a n c) ∧ OwnI w' w1.heap.size 47 (.slice a n c) r ∧ Below w1.heap.size w1 w' := fun w1 b => hd w1 (hal.trans (b.mono hal.size))
      have hwl : w.heap.size ≤ wx.heap.size := hal.size
      have hb : ∀ w1 la ln lc ra rn rc, OwnI w1 wx.heap.size 47 (.slice la ln lc) l → OwnI w1 wx.heap.size 47 (.slice ra rn rc) r → Apart (.slice la ln lc) (.slice ra rn rc) → wx.heap.size ≤ w1.heap.size → Calls Tryd.prog 29 #[.string s, .slice la ln lc, .slice ra rn rc] w1 fun e w' => ∃ a n c, e = .returned (.slice a n c) ∧ OwnI w' wx.heap.size 47 (.slice a n c) (binI s l r) ∧ Below wx.heap.size w1 w' := fun w1 la ln lc ra rn rc h1 h2 h3 h4 => binCode_any wx.heap.size s h1 h2 h3 hle h4 (by omega)
      clear hc hd hX
      obtain ⟨Xb, hXb⟩ : ∃ Xb, w.heap.size = Xb := ⟨_, rfl⟩
      rw [hXb] at z0 z1 z2 hXl hwl ⊢
      have HXB := hidI hXb
      have HAL := hidI hal
      clear hXb hal
      have hB := Below.refl wx.heap.size wx
      have y0 := z0
      have y1 := z1
      have y2 := z2
      go_region_held_law (fun w' => w'.cell? ⟨Xb, 0, none⟩ = some (.string s) ∧ w'.cell? ⟨Xb, 1, none⟩ = some (.iface u x) ∧ w'.cell? ⟨Xb, 2, none⟩ = some (.nilIface))
        ((refine ⟨?_, ?_, ?_⟩ <;> (repeat (first | (with_reducible exact y0) | (with_reducible exact y1) | (with_reducible exact y2) | (with_reducible refine cellI_dr ?_))) <;> done))
        (first
          | (go_at_call 29; (first | (with_reducible refine (hb _ _ _ _ _ _ _ hoL hoR hap hszB).mono ?_) | (with_reducible refine (hb _ _ _ _ _ _ _ hoL.dr hoR.dr hap hszB).mono ?_)); rintro e w7 ⟨ta, tn, tc, rfl, hoT, bT⟩; (first | have hB := hB.trans bT | have hB := hB.drew.trans bT); have y0 := (hB.cell (p := ⟨Xb, 0, none⟩) hXl).trans z0; have y1 := (hB.cell (p := ⟨Xb, 1, none⟩) hXl).trans z1; have y2 := (hB.cell (p := ⟨Xb, 2, none⟩) hXl).trans z2)
          | (go_at_call 16; (first | (with_reducible refine (hdx _ hB1).mono ?_) | (with_reducible refine (hdx _ hB1.drew).mono ?_)); rintro e w4 ⟨ra, rn, rc, rfl, hoR, bR⟩; have hap := two_apart hoL hoR (by simp); have hoR := hoR.low (lo := wx.heap.size) (by have h9 := hB1.size; (try simp only [World.drew] at h9 ⊢); omega); have hoL := hoL.on (w' := w4) (by first | exact bR | exact ((Below.refl _ _).drew).trans bR); (first | have hB := Below.nxI hB1 bR | have hB := Below.nxdI hB1 bR); have y0 := (hB.cell (p := ⟨Xb, 0, none⟩) hXl).trans z0; have y1 := (hB.cell (p := ⟨Xb, 1, none⟩) hXl).trans z1; have y2 := (hB.cell (p := ⟨Xb, 2, none⟩) hXl).trans z2; have hszB : wx.heap.size ≤ w4.heap.size := by have h9 := hB.size; omega)
          | (go_at_call 16; (first | (with_reducible refine (hcx _ hB).mono ?_) | (with_reducible refine (hcx _ hB.drew).mono ?_)); rintro e w3 ⟨la, ln, lc, rfl, hoL, bL⟩; have hoL := hoL.low (lo := wx.heap.size) (by have h9 := hB.size; (try simp only [World.drew] at h9 ⊢); omega); (first | have hB := Below.nxI hB bL | have hB := Below.nxdI hB bL); have hB1 := hB; have y0 := (hB.cell (p := ⟨Xb, 0, none⟩) hXl).trans z0; have y1 := (hB.cell (p := ⟨Xb, 1, none⟩) hXl).trans z1; have y2 := (hB.cell (p := ⟨Xb, 2, none⟩) hXl).trans z2)
          | fail)
      all_goals (
        go_wp2
        go_ret
        exact ⟨_, _, _, rfl, hoT.low HAL.out.size, HAL.out.trans (hB.mono HAL.out.size)⟩)
    · go_enter Tryd.func16, Tryd.ntmps16
      go_upto_region 16 with fail
      generalize (w.alloc (.cells #[.string s, .iface u x, .iface u' y] 61)) = wx at *
      obtain ⟨z0, _⟩ := hX 0 _ rfl
      obtain ⟨z1, _⟩ := hX 1 _ rfl
      obtain ⟨z2, _⟩ := hX 2 _ rfl
      have hXl := hX.lt
      have hcx : ∀ w1, Below wx.heap.size wx w1 → Calls Tryd.prog 16 #[.iface u x, .slice va vn vc] w1 fun e w' => ∃ a n c, e = .returned (.slice a n c) ∧ OwnI w' w1.heap.size 47 (.slice a n c) l ∧ Below w1.heap.size w1 w' := fun w1 b => hc w1 (hal.trans (b.mono hal.size))
      have hdx : ∀ w1, Below wx.heap.size wx w1 → Calls Tryd.prog 16 #[.iface u' y, .slice va vn vc] w1 fun e w' => ∃ a n c, e = .returned (.slice a n c) ∧ OwnI w' w1.heap.size 47 (.slice a n c) r ∧ Below w1.heap.size w1 w' := fun w1 b => hd w1 (hal.trans (b.mono hal.size))
      have hwl : w.heap.size ≤ wx.heap.size := hal.size
      have hb : ∀ w1 la ln lc ra rn rc, OwnI w1 wx.heap.size 47 (.slice la ln lc) l → OwnI w1 wx.heap.size 47 (.slice ra rn rc) r → Apart (.slice la ln lc) (.slice ra rn rc) → wx.heap.size ≤ w1.heap.size → Calls Tryd.prog 29 #[.string s, .slice la ln lc, .slice ra rn rc] w1 fun e w' => ∃ a n c, e = .returned (.slice a n c) ∧ OwnI w' wx.heap.size 47 (.slice a n c) (binI s l r) ∧ Below wx.heap.size w1 w' := fun w1 la ln lc ra rn rc h1 h2 h3 h4 => binCode_any wx.heap.size s h1 h2 h3 hle h4 (by omega)
      clear hc hd hX
      obtain ⟨Xb, hXb⟩ : ∃ Xb, w.heap.size = Xb := ⟨_, rfl⟩
      rw [hXb] at z0 z1 z2 hXl hwl ⊢
      have HXB := hidI hXb
      have HAL := hidI hal
      clear hXb hal
      have hB := Below.refl wx.heap.size wx
      have y0 := z0
      have y1 := z1
      have y2 := z2
      go_region_held_law (fun w' => w'.cell? ⟨Xb, 0, none⟩ = some (.string s) ∧ w'.cell? ⟨Xb, 1, none⟩ = some (.iface u x) ∧ w'.cell? ⟨Xb, 2, none⟩ = some (.iface u' y))
        ((refine ⟨?_, ?_, ?_⟩ <;> (repeat (first | (with_reducible exact y0) | (with_reducible exact y1) | (with_reducible exact y2) | (with_reducible refine cellI_dr ?_))) <;> done))
        (first
          | (go_at_call 29; (first | (with_reducible refine (hb _ _ _ _ _ _ _ hoL hoR hap hszB).mono ?_) | (with_reducible refine (hb _ _ _ _ _ _ _ hoL.dr hoR.dr hap hszB).mono ?_)); rintro e w7 ⟨ta, tn, tc, rfl, hoT, bT⟩; (first | have hB := hB.trans bT | have hB := hB.drew.trans bT); have y0 := (hB.cell (p := ⟨Xb, 0, none⟩) hXl).trans z0; have y1 := (hB.cell (p := ⟨Xb, 1, none⟩) hXl).trans z1; have y2 := (hB.cell (p := ⟨Xb, 2, none⟩) hXl).trans z2)
          | (go_at_call 16; (first | (with_reducible refine (hdx _ hB1).mono ?_) | (with_reducible refine (hdx _ hB1.drew).mono ?_)); rintro e w4 ⟨ra, rn, rc, rfl, hoR, bR⟩; have hap := two_apart hoL hoR (by simp); have hoR := hoR.low (lo := wx.heap.size) (by have h9 := hB1.size; (try simp only [World.drew] at h9 ⊢); omega); have hoL := hoL.on (w' := w4) (by first | exact bR | exact ((Below.refl _ _).drew).trans bR); (first | have hB := Below.nxI hB1 bR | have hB := Below.nxdI hB1 bR); have y0 := (hB.cell (p := ⟨Xb, 0, none⟩) hXl).trans z0; have y1 := (hB.cell (p := ⟨Xb, 1, none⟩) hXl).trans z1; have y2 := (hB.cell (p := ⟨Xb, 2, none⟩) hXl).trans z2; have hszB : wx.heap.size ≤ w4.heap.size := by have h9 := hB.size; omega)
          | (go_at_call 16; (first | (with_reducible refine (hcx _ hB).mono ?_) | (with_reducible refine (hcx _ hB.drew).mono ?_)); rintro e w3 ⟨la, ln, lc, rfl, hoL, bL⟩; have hoL := hoL.low (lo := wx.heap.size) (by have h9 := hB.size; (try simp only [World.drew] at h9 ⊢); omega); (first | have hB := Below.nxI hB bL | have hB := Below.nxdI hB bL); have hB1 := hB; have y0 := (hB.cell (p := ⟨Xb, 0, none⟩) hXl).trans z0; have y1 := (hB.cell (p := ⟨Xb, 1, none⟩) hXl).trans z1; have y2 := (hB.cell (p := ⟨Xb, 2, none⟩) hXl).trans z2)
          | fail)
      all_goals (
        go_wp2
        go_ret
        exact ⟨_, _, _, rfl, hoT.low HAL.out.size, HAL.out.trans (hB.mono HAL.out.size)⟩)
theorem shrt_one {m d : Nat} {k n : Int} {s : ByteArray} {ps : List (T d)} (h : shrt m (d + 1) (mkT k n s ps) = true) : s.size ≤ m ∧ ∀ p ∈ ps, shrt m d p = true := by
  rw [shrt_mk] at h
  simp only [Bool.and_eq_true, decide_eq_true_eq, List.all_eq_true] at h
  exact h
set_option maxRecDepth 100000 in
set_option maxHeartbeats 1000000 in
theorem cd_nil (vv : Value) (hv : ∃ a n c, vv = .slice a n c) (w : World) : Calls Tryd.prog 16 #[.nilIface, vv] w fun e w' => ∃ a k c, e = .returned (.slice a k c) ∧ OwnI w' w.heap.size 47 (.slice a k c) [] ∧ Below w.heap.size w w' := by
  obtain ⟨va, vn, vc, rfl⟩ := hv
  go_enter Tryd.func16, Tryd.ntmps16
  go_wp2
  go_ret
  exact ⟨_, _, _, rfl, ownI_nil _ _ _, Below.refl _ _⟩
theorem codeOf_any : ∀ d, CdP d
  | 0 => fun _ t => Empty.elim t
  | d + 1 => by
    intro vs t vv w hcl hsh hcn hv hl
    have IH := codeOf_any d
    have hvv : ∃ a n c, vv = .slice a n c := by obtain ⟨a, c, rfl, _⟩ := hv.form; exact ⟨_, _, _, rfl⟩
    have hlen := cdC_len vs (d + 1) t hcl
    rcases hcl.cases with ⟨n, rfl⟩ | ⟨s, rfl⟩ | ⟨k, p, hk, rfl, hp⟩ | ⟨s, p, q, rfl, hp, hq⟩ | rfl
    · rw [cdC_lit]
      exact cd_lit n vv hvv w
    · rw [cdC_ref]
      exact cd_ref s hv hl
    · have h1 := (shrt_one hsh).2 p (by simp)
      rw [cnt_mk] at hcn hlen
      simp only [List.map_cons, List.map_nil, List.sum_cons, List.sum_nil] at hcn hlen
      have hc := fun w1 (b : Below w.heap.size w w1) => IH vs p vv w1 hp h1 (by omega) (hv.below b (Nat.le_refl _)) hl
      have hlp := cdC_len vs d p hp
      have := cd_one k hk (exV_ifc d p hp) hvv (by omega) hc
      rcases hk with rfl | rfl
      · rw [cdC_not]
        exact this
      · rw [cdC_neg]
        exact this
    · have h0 := (shrt_one hsh).1
      have h1 := (shrt_one hsh).2 p (by simp)
      have h2 := (shrt_one hsh).2 q (by simp)
      rw [cnt_mk] at hcn
      simp only [List.map_cons, List.map_nil, List.sum_cons, List.sum_nil] at hcn
      have hc := fun w1 (b : Below w.heap.size w w1) => IH vs p vv w1 hp h1 (by omega) (hv.below b (Nat.le_refl _)) hl
      have hd := fun w1 (b : Below w.heap.size w w1) => IH vs q vv w1 hq h2 (by omega) (hv.below b (Nat.le_refl _)) hl
      have hlp := cdC_len vs d p hp
      have hlq := cdC_len vs d q hq
      rw [cdC_bin]
      exact cd_bin s h0 (exV_ifc d p hp) (exV_ifc d q hq) hvv (by omega) hc hd
    · rw [cdC_none]
      exact cd_nil vv hvv w
/-- What Code tells: the instructions, and the error. -/
def cdE (vs : List Vr) (d : Nat) (t : T d) : List Ins × Int := if fmC d t = true then (if (rfT d t).all (fun s => decide (0 ≤ vix s vs 0)) = true then (cdC vs d t, 0) else ([], 5)) else ([], 1)
theorem rdS_at {w : World} {v : Value} {ls : List ByteArray} (h : RdS w v ls) : ∃ a cap, v = .slice a ls.length cap ∧ ls.length ≤ cap ∧ cap ≤ 9223372036854775807 ∧ ∀ (i : Nat) (hi : i < ls.length), ∃ g, a = some ⟨g, 0, none⟩ ∧ g < w.heap.size ∧ w.cell? ⟨g, i, none⟩ = some (.string ls[i]) := by
  rcases h.form with ⟨rfl, rfl⟩ | ⟨g, cap, rfl, h1, h2, hc⟩
  · exact ⟨_, _, rfl, by simp, by simp, fun i hi => by simp at hi⟩
  · exact ⟨_, _, rfl, h1, by unfold maxLen at h2; omega, fun i hi => ⟨g, rfl, World.block_lt_of_cell? w _ (hc i hi), hc i hi⟩⟩
set_option maxRecDepth 100000 in
set_option maxHeartbeats 8000000 in
theorem codeP_any {w : World} {d : Nat} {t : T d} {vs : List Vr} {vv : Value} (hcl : Cl d t) (hcn : cnt d t ≤ 1000) (hsh : shrt 1000 d t = true) (hv : RdV w vv vs) (hl : vs.length ≤ 10000) :
    Calls Tryd.prog 6 #[exV d t, vv] w fun e w' => ∃ a n c, e = .returned (.tuple #[.slice a n c, .int .i64 (cdE vs d t).2]) ∧ OwnI w' w.heap.size 47 (.slice a n c) (cdE vs d t).1 ∧ Below w.heap.size w w' := by
  have h1 := formedP d t w hcl (by omega) hsh
  have h2 := fun w1 => refs_anyP (d := d) (t := t) w1 hcl hcn hsh
  have h3 := fun w1 (b : Below w.heap.size w w1) s => numberOf_any (hv.below b (Nat.le_refl _)) hl s
  have h4 := fun w1 (b : Below w.heap.size w w1) => codeOf_any d vs t vv w1 hcl hsh (by omega) (hv.below b (Nat.le_refl _)) hl
  obtain ⟨va, vc, rfl, _⟩ := hv.form
  unfold cdE
  obtain ⟨C, hC⟩ : ∃ C, cdC vs d t = C := ⟨_, rfl⟩
  obtain ⟨R, hR⟩ : ∃ R, rfT d t = R := ⟨_, rfl⟩
  obtain ⟨vn, hvn⟩ : ∃ n, vs.length = n := ⟨_, rfl⟩
  simp only [hC, hR, hvn] at h2 h3 h4 ⊢
  rcases exV_ifc d t hcl with hx | ⟨u, x, hx⟩
  all_goals (
    rw [hx] at h1 h4 ⊢
    simp only [hx] at h2
    clear hx hC hR hvn hv hl hcl hcn hsh
    cases hf : fmC d t with
    | false =>
      rw [hf] at h1
      rw [if_neg (by decide)]
      clear h2 h3 h4 hf
      go_enter Tryd.func6, Tryd.ntmps6
      go_wp2_with (first
        | (go_at_call 13; refine h1.mono ?_; rintro e w1 ⟨rfl, b1⟩)
        | fail)
      go_ret2
      exact ⟨_, _, _, rfl, ownI_nil _ _ _, b1⟩
    | true =>
      rw [hf] at h1
      rw [if_pos rfl]
      clear hf
      obtain ⟨E, hE⟩ : ∃ E, (if R.all (fun s => decide (0 ≤ vix s vs 0)) = true then (C, (0 : Int)) else ([], 5)) = E := ⟨_, rfl⟩
      rw [hE]
      have HE := hidI hE
      clear hE
      go_enter Tryd.func6, Tryd.ntmps6
      go_upto_region 4 with (first
        | (go_at_call 13; refine h1.mono ?_; rintro e w1 ⟨rfl, b1⟩)
        | (go_at_call 14; refine (h2 _).mono ?_; rintro e w2 ⟨rv, rfl, hrv, b2⟩; obtain ⟨ra, rc, rfl, hrl, hrm, hcell⟩ := rdS_at hrv)
        | fail)
      have hb2 := b1.trans (b2.mono b1.size)
      have HC := hidI hcell
      obtain ⟨rn, hrn⟩ : ∃ n, R.length = n := ⟨_, rfl⟩
      rw [hrn] at hrl ⊢
      have HN := hidI hrn
      clear hcell h1 h2 hrv b1 b2 hrn
      go_loopw [14] (fun ix wr => ∃ (j : Nat), j ≤ rn ∧ ix = .int .i64 (j : Int) ∧ Hid ((R.take j).all (fun s => decide (0 ≤ vix s vs 0)) = true) ∧ Below w2.heap.size w2 wr) (fun ix _ => rn - (RowKit.intOf ix).toNat)
      case atStart => exact ⟨0, Nat.zero_le _, rfl, rfl, Below.refl _ _⟩
      case round =>
        obtain ⟨j, hj, rfl, HA, hb⟩ := hrel
        have hbw := hb2.trans (hb.mono hb2.size)
        by_cases hlt : j < rn
        · have hjl : j < R.length := by rw [HN.out]; exact hlt
          obtain ⟨g, rfl, hgl, c0⟩ := HC.out j hjl
          have C0 := (hb.cell (p := ⟨g, j, none⟩) hgl).trans c0
          have hmem : R[j] ∈ R := List.getElem_mem hjl
          have hAE : R.take (j + 1) = R.take j ++ [R[j]] := List.take_succ_eq_append_getElem hjl
          obtain ⟨x, hx⟩ : ∃ x, R[j] = x := ⟨_, rfl⟩
          rw [hx] at C0 hmem hAE
          have hcall := h3 _ hbw x
          obtain ⟨V, hV⟩ : ∃ V, vix x vs 0 = V := ⟨_, rfl⟩
          rw [hV] at hcall
          have i1 : (j : Int) < (rn : Int) := by omega
          have i2 : (0 : Int) ≤ (j : Int) := by omega
          clear c0 hx
          by_cases hneg : V < 0
          · have HQ : Hid (R.all (fun s => decide (0 ≤ vix s vs 0)) = false) := by
              show _ = _
              rw [List.all_eq_false]
              exact ⟨x, hmem, by rw [hV]; simp; omega⟩
            clear hmem hAE
            go_wp2_with (first
              | (go_at_call 15; refine hcall.mono ?_; rintro e w3 ⟨rfl, b3⟩)
              | fail)
            go_ret2
            have hE : E = ([], 5) := by rw [← HE.out, HQ.out]; rfl
            subst hE
            exact ⟨_, _, _, rfl, ownI_nil _ _ _, hbw.trans (b3.mono hbw.size)⟩
          · have HA2 : Hid ((R.take (j + 1)).all (fun s => decide (0 ≤ vix s vs 0)) = true) := by
              show _ = _
              rw [hAE, List.all_append, HA.out]
              simp [hV]
              omega
            have i3 : ¬ V < 0 := hneg
            clear hmem hAE HA
            go_wp2_with (first
              | (go_at_call 15; refine hcall.mono ?_; rintro e w3 ⟨rfl, b3⟩)
              | fail)
            go_roundw
            case rel => exact ⟨j + 1, hlt, by go_num, HA2, hb.trans (b3.mono hb.size)⟩
            case measure => simp [RowKit.intOf]; omega
        · have i1 : ¬ (j : Int) < (rn : Int) := by omega
          have HQ : Hid (R.all (fun s => decide (0 ≤ vix s vs 0)) = true) := by
            have := HA.out
            rw [List.take_of_length_le (by rw [HN.out]; omega)] at this
            exact this
          have hcall := h4 _ hbw
          clear HA h3 h4
          go_wp2_with (first
            | (go_at_call 16; refine hcall.mono ?_; rintro e w3 ⟨ta, tn, tc, rfl, hoT, b3⟩)
            | fail)
          go_ret2
          have hE : E = (C, 0) := by rw [← HE.out, if_pos HQ.out]
          subst hE
          exact ⟨_, _, _, rfl, hoT.low hbw.size, hbw.trans (b3.mono hbw.size)⟩)
theorem Tryd.infoInsR : (Tryd.prog.info? 64).map (fun i => (i.zero, i.size, i.bytes)) = some (some (.agg #[.string ⟨#[]⟩, .int .i64 0]), 2, 24) := by kernel_rfl
theorem appR {w : World} {ops : Array Oper} {rest : List Oper} {o : Oper} {a : Act} {Q : Exit → Act → World → Prop} (hgd : o.guard = none) (s x : Operand)
    (ho : o.op = .call { callee := .builtin .append, args := #[s, x], argTypes := #[37, 37] }) (base : Nat) (v : Value) (l : List Ins) (hs : a.eval s = v) (hown : OwnI w base 64 v l)
    (xv : Value) (r : List Ins) (hx : a.eval x = xv) (hsrc : Src Tryd.prog 2 37 xv r.length (celI r) w) (hle : l.length + r.length ≤ 100000) (hbase : base ≤ w.heap.size)
    (h : ∀ va m vc w', Hid (m = l.length + r.length) → OwnI w' base 64 (.slice va m vc) (l ++ r) → w.grownBy w' v.ownBlock → Hid ((Value.slice va m vc).ownBlock = v.ownBlock ∨ (Value.slice va m vc).ownBlock = some w.heap.size) → wpList Tryd.prog ops Q rest (a.put o.dst (.slice va m vc)) w') : wpList Tryd.prog ops Q (o :: rest) a w := by
  obtain ⟨i0, hi, hz0, hz1, hz2⟩ := info_parts Tryd.infoInsR
  refine wpList_append_at w hgd s x 37 37 ho base 64 i0 (.agg #[.string ⟨#[]⟩, .int .i64 0]) 2 24 Tryd.underlying37 hi hz0 hz1 hz2 rfl v l.length (celI l) hs hown xv r.length (celI r) hx hsrc r.length (.inr (by omega)) (Nat.le_refl _) (by unfold maxLen; omega) hbase ?_
  intro v' w' ho' hg hat
  have hO : OwnI w' base 64 v' (l ++ r) := by
    show w'.ownsRow base 64 2 v' (l ++ r).length (celI (l ++ r))
    rw [celI_app, List.length_append]
    exact ho'
  obtain ⟨va, vc, rfl, _⟩ := hO.form
  exact h va _ vc w' (List.length_append ..) hO hg hat
theorem stepR (w : World) {ops : Array Oper} {o : Oper} {a : Act} {K : Act → World → Prop} {Q : Exit → Act → World → Prop} {E : Prop} (hgd : o.guard = none) (s x : Operand)
    (ho : o.op = .call { callee := .builtin .append, args := #[s, x], argTypes := #[37, 37] }) (base : Nat) (v : Value) (l : List Ins) (hs : a.eval s = v) (hown : OwnI w base 64 v l)
    (xv : Value) (r : List Ins) (hx : a.eval x = xv) (hsrc : Src Tryd.prog 2 37 xv r.length (celI r) w) (hle : l.length + r.length ≤ 100000) (hbase : base ≤ w.heap.size)
    (h : ∀ va m vc w', Hid (m = l.length + r.length) → OwnI w' base 64 (.slice va m vc) (l ++ r) → w.grownBy w' v.ownBlock → Hid ((Value.slice va m vc).ownBlock = v.ownBlock ∨ (Value.slice va m vc).ownBlock = some w.heap.size) → K (a.put o.dst (.slice va m vc)) w') :
    if Region.wanted o (yielded ops a.tmps) = true then Oper.wp Tryd.prog o a w K Q else E := by
  obtain ⟨i0, hi, hz0, hz1, hz2⟩ := info_parts Tryd.infoInsR
  refine step_append_at w hgd s x 37 37 ho base 64 i0 (.agg #[.string ⟨#[]⟩, .int .i64 0]) 2 24 Tryd.underlying37 hi hz0 hz1 hz2 rfl v l.length (celI l) hs hown xv r.length (celI r) hx hsrc r.length (.inr (by omega)) (Nat.le_refl _) (by unfold maxLen; omega) hbase ?_
  intro v' w' ho' hg hat
  have hO : OwnI w' base 64 v' (l ++ r) := by
    show w'.ownsRow base 64 2 v' (l ++ r).length (celI (l ++ r))
    rw [celI_app, List.length_append]
    exact ho'
  obtain ⟨va, vc, rfl, _⟩ := hO.form
  exact h va _ vc w' (List.length_append ..) hO hg hat
set_option maxRecDepth 100000 in
set_option maxHeartbeats 4000000 in
theorem variableR_any {w : World} {vs : List Vr} {vv : Value} (hv : RdV w vv vs) (hl : vs.length ≤ 10000) (s : ByteArray) :
    Calls Tryd.prog 20 #[vv, .string s] w fun e w' => e = .returned (.int .i64 (vix s vs 0)) ∧ Below w.heap.size w w' := by
  obtain ⟨a, cap, rfl, hlc, hcm, hcell⟩ := hv.form
  obtain ⟨V, hV⟩ : ∃ V, vix s vs 0 = V := ⟨_, rfl⟩
  rw [hV]
  have HV : Hid (vix s (vs.drop 0) 0 = V) := hV
  have HC : Hid (∀ (i : Nat) (hi : i < vs.length), ∃ b off, a = some ⟨b, off, none⟩ ∧ b < w.heap.size ∧ w.cell? ⟨b, off + i * 2, none⟩ = some (.string (vs[i]).1) ∧ w.cell? ⟨b, off + i * 2 + 1, none⟩ = some (.int .i64 (vs[i]).2)) := hcell
  clear hcell hv hV
  go_enter Tryd.func20, Tryd.ntmps20
  go_wp2
  go_loopw [8] (fun i wr => ∃ (j : Nat), j ≤ vs.length ∧ i = .int .i64 (j : Int) ∧ Hid (vix s (vs.drop j) j = V) ∧ Below w.heap.size w wr) (fun i _ => vs.length - (RowKit.intOf i).toNat)
  case atStart => exact ⟨0, Nat.zero_le _, rfl, HV, Below.refl _ _⟩
  case round =>
    obtain ⟨j, hj, rfl, hlk, hb⟩ := hrel
    by_cases hlt : j < vs.length
    · obtain ⟨b, off, rfl, hbl, k0, k1⟩ := HC.out j hlt
      have C0 := (hb.cell (p := ⟨b, off + j * 2, none⟩) hbl).trans k0
      have hll := hlk.out
      rw [List.drop_eq_getElem_cons hlt] at hll
      have i1 : (j : Int) < (vs.length : Int) := by omega
      have i2 : (0 : Int) ≤ (j : Int) := by omega
      obtain ⟨xs, hxs⟩ : ∃ x, (vs[j]).1 = x := ⟨_, rfl⟩
      unfold vix at hll
      rw [hxs] at hll C0
      clear k0 k1 hxs
      by_cases he : xs = s
      · subst he
        rw [if_pos rfl] at hll
        subst hll
        go_wp2
        go_ret
        exact ⟨rfl, hb⟩
      · rw [if_neg he] at hll
        have hN : Hid (vix s (vs.drop (j + 1)) (j + 1) = V) := hll
        have hs : (xs.toList == s.toList) = false := by
          rw [ByteArray.toList_eq, ByteArray.toList_eq]
          exact beq_eq_false_iff_ne.2 (fun e => he (ByteArray.ext (Array.toList_inj.1 e)))
        clear he hll hlk
        go_wp2
        go_roundw
        case rel => exact ⟨j + 1, hlt, by go_num, hN, hb⟩
        case measure => simp [RowKit.intOf]; omega
    · have i1 : ¬ (j : Int) < (vs.length : Int) := by omega
      have hll := hlk.out
      rw [List.drop_eq_nil_of_le (by omega)] at hll
      subst hll
      go_wp2
      go_ret
      exact ⟨rfl, hb⟩
def RcP (d : Nat) : Prop := ∀ (ok : Nat → Prop) (vs : List Vr) (t : T d) (v vv : Value) (w : World), Cl d t → sdC d t = true → cnt d t ≤ 10000 → RdT ok w d t v → RdV w vv vs → vs.length ≤ 10000 →
  Calls Tryd.prog 21 #[v, vv] w fun e w' => ∃ a n c, e = .returned (.slice a n c) ∧ OwnI w' w.heap.size 64 (.slice a n c) (cdC vs d t) ∧ Below w.heap.size w w'
set_option maxRecDepth 100000 in
set_option maxHeartbeats 4000000 in
theorem rc_lit (n : Int) (s : ByteArray) (sa : Option Addr) (sn sc : Nat) (vv : Value) (hv : ∃ a n c, vv = .slice a n c) (w : World) : Calls Tryd.prog 21 #[.agg #[.int .i64 1, .int .i64 n, .string s, .slice sa sn sc], vv] w fun e w' => ∃ a k c, e = .returned (.slice a k c) ∧ OwnI w' w.heap.size 64 (.slice a k c) [(wPush, n)] ∧ Below w.heap.size w w' := by
  obtain ⟨va, vn, vc, rfl⟩ := hv
  have hal : Below w.heap.size w (w.alloc (.cells #[.int .i64 1, .int .i64 n, .string s, .slice sa sn sc] 24)) := (Below.refl _ _).alloc (Nat.le_refl _) _
  have hN := ownI_new (w.alloc (.cells #[.int .i64 1, .int .i64 n, .string s, .slice sa sn sc] 24)) 64 ⟨#[112, 117, 115, 104]⟩ n w.heap.size hal.size
  go_enter Tryd.func21, Tryd.ntmps21
  go_wp2
  go_ret
  exact ⟨_, _, _, rfl, by simpa [wPush] using hN, hal.alloc hal.size _⟩
set_option maxRecDepth 100000 in
set_option maxHeartbeats 4000000 in
theorem rc_ref (n : Int) (s : ByteArray) (sa : Option Addr) (sn sc : Nat) {vs : List Vr} {vv : Value} {w : World} (hv : RdV w vv vs) (hl : vs.length ≤ 10000) : Calls Tryd.prog 21 #[.agg #[.int .i64 2, .int .i64 n, .string s, .slice sa sn sc], vv] w fun e w' => ∃ a k c, e = .returned (.slice a k c) ∧ OwnI w' w.heap.size 64 (.slice a k c) [(wLoad, vix s vs 0)] ∧ Below w.heap.size w w' := by
  have hal : Below w.heap.size w (w.alloc (.cells #[.int .i64 2, .int .i64 n, .string s, .slice sa sn sc] 24)) := (Below.refl _ _).alloc (Nat.le_refl _) _
  have hc := variableR_any (hv.below hal (Nat.le_refl _)) hl s
  obtain ⟨a, cap, rfl, hlc, hcm, _⟩ := hv.form
  obtain ⟨V, hV⟩ : ∃ V, vix s vs 0 = V := ⟨_, rfl⟩
  have hV1 := vix_ge s vs 0
  have hV2 := vix_lt s vs 0
  rw [hV] at hc hV1 hV2 ⊢
  clear hV hv
  have hN := fun w1 (b : w.heap.size ≤ w1.heap.size) => ownI_new w1 64 ⟨#[108, 111, 97, 100]⟩ V w.heap.size b
  go_enter Tryd.func21, Tryd.ntmps21
  go_wp2_with (first
    | (go_at_call 20; refine hc.mono ?_; rintro e w1 ⟨rfl, b1⟩)
    | fail)
  go_ret
  have hb1 := hal.trans (b1.mono hal.size)
  exact ⟨_, _, _, rfl, hN _ hb1.size, hb1.alloc hb1.size _⟩
set_option maxRecDepth 100000 in
set_option maxHeartbeats 4000000 in
theorem rc_not (n : Int) (s : ByteArray) (b off sn sc : Nat) (hsn : 0 < sn) {c0 c1 : Int} {c2 : ByteArray} {c3 : Option Addr} {c4 c5 : Nat} {vv : Value} (hvv : ∃ a n c, vv = .slice a n c) {w : World} {l : List Ins} (hle : l.length ≤ 50000) (hbl : b < w.heap.size)
    (k0 : w.cell? ⟨b, off, none⟩ = some (.int .i64 c0)) (k1 : w.cell? ⟨b, off + 1, none⟩ = some (.int .i64 c1)) (k2 : w.cell? ⟨b, off + 2, none⟩ = some (.string c2)) (k3 : w.cell? ⟨b, off + 3, none⟩ = some (.slice c3 c4 c5))
    (hc : ∀ w1, Below w.heap.size w w1 → Calls Tryd.prog 21 #[.agg #[.int .i64 c0, .int .i64 c1, .string c2, .slice c3 c4 c5], vv] w1 fun e w' => ∃ a n c, e = .returned (.slice a n c) ∧ OwnI w' w1.heap.size 64 (.slice a n c) l ∧ Below w1.heap.size w1 w') :
    Calls Tryd.prog 21 #[.agg #[.int .i64 3, .int .i64 n, .string s, .slice (some ⟨b, off, none⟩) sn sc], vv] w fun e w' => ∃ a n c, e = .returned (.slice a n c) ∧ OwnI w' w.heap.size 64 (.slice a n c) (l ++ [(wNot, 0)]) ∧ Below w.heap.size w w' := by
  obtain ⟨va, vn, vc, rfl⟩ := hvv
  have hsnr := fun w1 s => srcI_new (tx := 37) Tryd.underlying37 w1 s 0
  have hal : Below w.heap.size w (w.alloc (.cells #[.int .i64 3, .int .i64 n, .string s, .slice (some ⟨b, off, none⟩) sn sc] 24)) := (Below.refl _ _).alloc (Nat.le_refl _) _
  have hc1 := hc _ hal
  have y0 := (hal.cell (p := ⟨b, off, none⟩) hbl).trans k0
  have y1 := (hal.cell (p := ⟨b, off + 1, none⟩) hbl).trans k1
  have y2 := (hal.cell (p := ⟨b, off + 2, none⟩) hbl).trans k2
  have y3 := (hal.cell (p := ⟨b, off + 3, none⟩) hbl).trans k3
  have i1 : (0 : Int) < (sn : Int) := by omega
  clear hc k0 k1 k2 k3
  go_enter Tryd.func21, Tryd.ntmps21
  go_wp2_with (first
    | (go_at_call 21; refine hc1.mono ?_; rintro e w1 ⟨ra, rn, rc, rfl, ho, b1⟩; have hb1 := hal.trans (b1.mono hal.size); have hal2 : Below w1.heap.size w1 (w1.alloc (.cells #[.string ⟨#[110, 111, 116]⟩, .int .i64 0] 64)) := (Below.refl _ _).alloc (Nat.le_refl _) _; have ho2 := (ho.low hal.size).on hal2; have hb2 := hb1.trans (hal2.mono hb1.size); have s2 := hsnr w1 ⟨#[110, 111, 116]⟩)
    | (at_builtin; refine appR rfl _ _ rfl w.heap.size _ l rfl ho2 _ [((⟨#[110, 111, 116]⟩ : ByteArray), (0 : Int))] rfl s2 (by simp; omega) hb2.size ?_; intro vf mf vg w5 HMF ho6 hg6 hat6)
    | fail)
  go_ret
  exact ⟨_, _, _, rfl, ho6, hb2.grown hg6 hb2.size (fun k hk => (ho2.lt k hk).1)⟩
set_option maxRecDepth 100000 in
set_option maxHeartbeats 4000000 in
theorem rc_neg (n : Int) (s : ByteArray) (b off sn sc : Nat) (hsn : 0 < sn) {c0 c1 : Int} {c2 : ByteArray} {c3 : Option Addr} {c4 c5 : Nat} {vv : Value} (hvv : ∃ a n c, vv = .slice a n c) {w : World} {l : List Ins} (hle : l.length ≤ 50000) (hbl : b < w.heap.size)
    (k0 : w.cell? ⟨b, off, none⟩ = some (.int .i64 c0)) (k1 : w.cell? ⟨b, off + 1, none⟩ = some (.int .i64 c1)) (k2 : w.cell? ⟨b, off + 2, none⟩ = some (.string c2)) (k3 : w.cell? ⟨b, off + 3, none⟩ = some (.slice c3 c4 c5))
    (hc : ∀ w1, Below w.heap.size w w1 → Calls Tryd.prog 21 #[.agg #[.int .i64 c0, .int .i64 c1, .string c2, .slice c3 c4 c5], vv] w1 fun e w' => ∃ a n c, e = .returned (.slice a n c) ∧ OwnI w' w1.heap.size 64 (.slice a n c) l ∧ Below w1.heap.size w1 w') :
    Calls Tryd.prog 21 #[.agg #[.int .i64 4, .int .i64 n, .string s, .slice (some ⟨b, off, none⟩) sn sc], vv] w fun e w' => ∃ a n c, e = .returned (.slice a n c) ∧ OwnI w' w.heap.size 64 (.slice a n c) (l ++ [(wNeg, 0)]) ∧ Below w.heap.size w w' := by
  obtain ⟨va, vn, vc, rfl⟩ := hvv
  have hsnr := fun w1 s => srcI_new (tx := 37) Tryd.underlying37 w1 s 0
  have hal : Below w.heap.size w (w.alloc (.cells #[.int .i64 4, .int .i64 n, .string s, .slice (some ⟨b, off, none⟩) sn sc] 24)) := (Below.refl _ _).alloc (Nat.le_refl _) _
  have hc1 := hc _ hal
  have y0 := (hal.cell (p := ⟨b, off, none⟩) hbl).trans k0
  have y1 := (hal.cell (p := ⟨b, off + 1, none⟩) hbl).trans k1
  have y2 := (hal.cell (p := ⟨b, off + 2, none⟩) hbl).trans k2
  have y3 := (hal.cell (p := ⟨b, off + 3, none⟩) hbl).trans k3
  have i1 : (0 : Int) < (sn : Int) := by omega
  clear hc k0 k1 k2 k3
  go_enter Tryd.func21, Tryd.ntmps21
  go_wp2_with (first
    | (go_at_call 21; refine hc1.mono ?_; rintro e w1 ⟨ra, rn, rc, rfl, ho, b1⟩; have hb1 := hal.trans (b1.mono hal.size); have hal2 : Below w1.heap.size w1 (w1.alloc (.cells #[.string ⟨#[110, 101, 103]⟩, .int .i64 0] 64)) := (Below.refl _ _).alloc (Nat.le_refl _) _; have ho2 := (ho.low hal.size).on hal2; have hb2 := hb1.trans (hal2.mono hb1.size); have s2 := hsnr w1 ⟨#[110, 101, 103]⟩)
    | (at_builtin; refine appR rfl _ _ rfl w.heap.size _ l rfl ho2 _ [((⟨#[110, 101, 103]⟩ : ByteArray), (0 : Int))] rfl s2 (by simp; omega) hb2.size ?_; intro vf mf vg w5 HMF ho6 hg6 hat6)
    | fail)
  go_ret
  exact ⟨_, _, _, rfl, ho6, hb2.grown hg6 hb2.size (fun k hk => (ho2.lt k hk).1)⟩
set_option maxRecDepth 100000 in
set_option maxHeartbeats 16000000 in
theorem rc_bin (n : Int) (s : ByteArray) (b off sc : Nat) {c0 c1 : Int} {c2 : ByteArray} {c3 : Option Addr} {c4 c5 : Nat} {d0 d1 : Int} {d2 : ByteArray} {d3 : Option Addr} {d4 d5 : Nat} {vv : Value} (hvv : ∃ a n c, vv = .slice a n c) {w : World} {l r : List Ins} (hle : l.length + r.length ≤ 50000) (hbl : b < w.heap.size)
    (k0 : w.cell? ⟨b, off, none⟩ = some (.int .i64 c0)) (k1 : w.cell? ⟨b, off + 1, none⟩ = some (.int .i64 c1)) (k2 : w.cell? ⟨b, off + 2, none⟩ = some (.string c2)) (k3 : w.cell? ⟨b, off + 3, none⟩ = some (.slice c3 c4 c5)) (k4 : w.cell? ⟨b, off + 4, none⟩ = some (.int .i64 d0)) (k5 : w.cell? ⟨b, off + 5, none⟩ = some (.int .i64 d1)) (k6 : w.cell? ⟨b, off + 6, none⟩ = some (.string d2)) (k7 : w.cell? ⟨b, off + 7, none⟩ = some (.slice d3 d4 d5))
    (hc : ∀ w1, Below w.heap.size w w1 → Calls Tryd.prog 21 #[.agg #[.int .i64 c0, .int .i64 c1, .string c2, .slice c3 c4 c5], vv] w1 fun e w' => ∃ a n c, e = .returned (.slice a n c) ∧ OwnI w' w1.heap.size 64 (.slice a n c) l ∧ Below w1.heap.size w1 w')
    (hd : ∀ w1, Below w.heap.size w w1 → Calls Tryd.prog 21 #[.agg #[.int .i64 d0, .int .i64 d1, .string d2, .slice d3 d4 d5], vv] w1 fun e w' => ∃ a n c, e = .returned (.slice a n c) ∧ OwnI w' w1.heap.size 64 (.slice a n c) r ∧ Below w1.heap.size w1 w') :
    Calls Tryd.prog 21 #[.agg #[.int .i64 5, .int .i64 n, .string s, .slice (some ⟨b, off, none⟩) 2 sc], vv] w fun e w' => ∃ a n c, e = .returned (.slice a n c) ∧ OwnI w' w.heap.size 64 (.slice a n c) (binI s l r) ∧ Below w.heap.size w w' := by
  obtain ⟨va, vn, vc, rfl⟩ := hvv
  obtain ⟨Z, hZ⟩ : ∃ Z, binI s l r = Z := ⟨_, rfl⟩
  rw [hZ]
  have HZ := hidI hZ
  clear hZ
  have hal : Below w.heap.size w (w.alloc (.cells #[.int .i64 5, .int .i64 n, .string s, .slice (some ⟨b, off, none⟩) 2 sc] 24)) := (Below.refl _ _).alloc (Nat.le_refl _) _
  have hX : Bn (w.alloc (.cells #[.int .i64 5, .int .i64 n, .string s, .slice (some ⟨b, off, none⟩) 2 sc] 24)) w.heap.size [.int .i64 5, .int .i64 n, .string s, .slice (some ⟨b, off, none⟩) 2 sc] := Bn.new w [.int .i64 5, .int .i64 n, .string s, .slice (some ⟨b, off, none⟩) 2 sc] 24 _ rfl
  have p0 := (hal.cell (p := ⟨b, off, none⟩) hbl).trans k0
  have p1 := (hal.cell (p := ⟨b, off + 1, none⟩) hbl).trans k1
  have p2 := (hal.cell (p := ⟨b, off + 2, none⟩) hbl).trans k2
  have p3 := (hal.cell (p := ⟨b, off + 3, none⟩) hbl).trans k3
  have p4 := (hal.cell (p := ⟨b, off + 4, none⟩) hbl).trans k4
  have p5 := (hal.cell (p := ⟨b, off + 5, none⟩) hbl).trans k5
  have p6 := (hal.cell (p := ⟨b, off + 6, none⟩) hbl).trans k6
  have p7 := (hal.cell (p := ⟨b, off + 7, none⟩) hbl).trans k7
  replace hbl : b < (w.alloc (.cells #[.int .i64 5, .int .i64 n, .string s, .slice (some ⟨b, off, none⟩) 2 sc] 24)).heap.size := Nat.lt_of_lt_of_le hbl hal.size
  clear k0 k1 k2 k3 k4 k5 k6 k7
  go_enter Tryd.func21, Tryd.ntmps21
  go_upto_region 10 with fail
  generalize (w.alloc (.cells #[.int .i64 5, .int .i64 n, .string s, .slice (some ⟨b, off, none⟩) 2 sc] 24)) = wx at *
  obtain ⟨z0, _⟩ := hX 0 _ rfl
  obtain ⟨z1, _⟩ := hX 1 _ rfl
  obtain ⟨z2, _⟩ := hX 2 _ rfl
  obtain ⟨z3, _⟩ := hX 3 _ rfl
  have hXl := hX.lt
  have hcx : ∀ w1, Below wx.heap.size wx w1 → Calls Tryd.prog 21 #[.agg #[.int .i64 c0, .int .i64 c1, .string c2, .slice c3 c4 c5], .slice va vn vc] w1 fun e w' => ∃ a n c, e = .returned (.slice a n c) ∧ OwnI w' w1.heap.size 64 (.slice a n c) l ∧ Below w1.heap.size w1 w' := fun w1 b => hc w1 (hal.trans (b.mono hal.size))
  have hdx : ∀ w1, Below wx.heap.size wx w1 → Calls Tryd.prog 21 #[.agg #[.int .i64 d0, .int .i64 d1, .string d2, .slice d3 d4 d5], .slice va vn vc] w1 fun e w' => ∃ a n c, e = .returned (.slice a n c) ∧ OwnI w' w1.heap.size 64 (.slice a n c) r ∧ Below w1.heap.size w1 w' := fun w1 b => hd w1 (hal.trans (b.mono hal.size))
  have HBC := hidI (fun W (h : Below wx.heap.size wx W) => hal.trans (h.mono hal.size))
  have HBl := hidI hal.size
  clear hc hd hX hal
  obtain ⟨Xb, hXb⟩ : ∃ Xb, w.heap.size = Xb := ⟨_, rfl⟩
  rw [hXb] at z0 z1 z2 z3 hXl ⊢
  clear hXb
  have hB := Below.refl wx.heap.size wx
  have y2 := z2
  have y3 := z3
  have q0 := p0
  have q1 := p1
  have q2 := p2
  have q3 := p3
  have q4 := p4
  have q5 := p5
  have q6 := p6
  have q7 := p7
  go_cut [5, 6] (fun v5 v6 wc => ∃ la ln lc ra rn rc, v5 = .slice la ln lc ∧ v6 = .slice ra rn rc ∧ Hid (OwnI wc wx.heap.size 64 (.slice la ln lc) l) ∧ Hid (OwnI wc wx.heap.size 64 (.slice ra rn rc) r) ∧ Hid (Apart (.slice la ln lc) (.slice ra rn rc)) ∧ Below wx.heap.size wx wc)
  case first =>
    go_region_held_law (fun w' => w'.cell? ⟨Xb, 2, none⟩ = some (.string s) ∧ w'.cell? ⟨Xb, 3, none⟩ = some (.slice (some ⟨b, off, none⟩) 2 sc) ∧ w'.cell? ⟨b, off, none⟩ = some (.int .i64 c0) ∧ w'.cell? ⟨b, off + 1, none⟩ = some (.int .i64 c1) ∧ w'.cell? ⟨b, off + 2, none⟩ = some (.string c2) ∧ w'.cell? ⟨b, off + 3, none⟩ = some (.slice c3 c4 c5) ∧ w'.cell? ⟨b, off + 4, none⟩ = some (.int .i64 d0) ∧ w'.cell? ⟨b, off + 5, none⟩ = some (.int .i64 d1) ∧ w'.cell? ⟨b, off + 6, none⟩ = some (.string d2) ∧ w'.cell? ⟨b, off + 7, none⟩ = some (.slice d3 d4 d5))
      ((refine ⟨?_, ?_, ?_, ?_, ?_, ?_, ?_, ?_, ?_, ?_⟩ <;> (repeat (first | (with_reducible exact y2) | (with_reducible exact y3) | (with_reducible exact q0) | (with_reducible exact q1) | (with_reducible exact q2) | (with_reducible exact q3) | (with_reducible exact q4) | (with_reducible exact q5) | (with_reducible exact q6) | (with_reducible exact q7) | (with_reducible refine cellI_dr ?_))) <;> done))
      (first
        | (go_at_call 21; (first | (with_reducible refine (hdx _ hB1).mono ?_) | (with_reducible refine (hdx _ hB1.drew).mono ?_)); rintro e w4 ⟨ra, rn, rc, rfl, hoR, bR⟩; have hap := two_apart hoL hoR (by simp); have hoR := hoR.low (lo := wx.heap.size) (by have h9 := hB1.size; (try simp only [World.drew] at h9 ⊢); omega); have hoL := hoL.on (w' := w4) (by first | exact bR | exact ((Below.refl _ _).drew).trans bR); (first | have hB := Below.nxI hB1 bR | have hB := Below.nxdI hB1 bR); have y2 := (hB.cell (p := ⟨Xb, 2, none⟩) hXl).trans z2; have y3 := (hB.cell (p := ⟨Xb, 3, none⟩) hXl).trans z3; have q0 := (hB.cell (p := ⟨b, off, none⟩) hbl).trans p0; have q1 := (hB.cell (p := ⟨b, off + 1, none⟩) hbl).trans p1; have q2 := (hB.cell (p := ⟨b, off + 2, none⟩) hbl).trans p2; have q3 := (hB.cell (p := ⟨b, off + 3, none⟩) hbl).trans p3; have q4 := (hB.cell (p := ⟨b, off + 4, none⟩) hbl).trans p4; have q5 := (hB.cell (p := ⟨b, off + 5, none⟩) hbl).trans p5; have q6 := (hB.cell (p := ⟨b, off + 6, none⟩) hbl).trans p6; have q7 := (hB.cell (p := ⟨b, off + 7, none⟩) hbl).trans p7)
        | (go_at_call 21; (first | (with_reducible refine (hcx _ hB).mono ?_) | (with_reducible refine (hcx _ hB.drew).mono ?_)); rintro e w3 ⟨la, ln, lc, rfl, hoL, bL⟩; have hoL := hoL.low (lo := wx.heap.size) (by have h9 := hB.size; (try simp only [World.drew] at h9 ⊢); omega); (first | have hB := Below.nxI hB bL | have hB := Below.nxdI hB bL); have hB1 := hB; have y2 := (hB.cell (p := ⟨Xb, 2, none⟩) hXl).trans z2; have y3 := (hB.cell (p := ⟨Xb, 3, none⟩) hXl).trans z3; have q0 := (hB.cell (p := ⟨b, off, none⟩) hbl).trans p0; have q1 := (hB.cell (p := ⟨b, off + 1, none⟩) hbl).trans p1; have q2 := (hB.cell (p := ⟨b, off + 2, none⟩) hbl).trans p2; have q3 := (hB.cell (p := ⟨b, off + 3, none⟩) hbl).trans p3; have q4 := (hB.cell (p := ⟨b, off + 4, none⟩) hbl).trans p4; have q5 := (hB.cell (p := ⟨b, off + 5, none⟩) hbl).trans p5; have q6 := (hB.cell (p := ⟨b, off + 6, none⟩) hbl).trans p6; have q7 := (hB.cell (p := ⟨b, off + 7, none⟩) hbl).trans p7)
        | fail)
    all_goals (
      have HoL := hidI hoL
      have HoR := hidI hoR
      have Hap := hidI hap
      clear hoL hoR hap
      go_wp2
      go_meet
      case rel => exact ⟨la, ln, lc, ra, rn, rc, rfl, rfl, HoL, HoR, Hap, hB⟩)
  case rest =>
    obtain ⟨la, ln, lc, ra, rn, rc, rfl, rfl, HoL, HoR, HAP0, hBc⟩ := hcut
    have w2 := (hBc.cell (p := ⟨Xb, 2, none⟩) hXl).trans z2
    have rnl : rn = r.length := by obtain ⟨_, _, he, _⟩ := HoR.out.form; simp only [Value.slice.injEq] at he; exact he.2.1
    have rnl2 : rn ≤ 50000 := by omega
    have HRN := hidI rnl
    clear p0 p1 p2 p3 p4 p5 p6 p7 q0 q1 q2 q3 q4 q5 q6 q7 y2 y3 hcx hdx hB z0 z1 z2 z3 rnl hbl
    obtain ⟨B, hBB⟩ : ∃ B, wx.heap.size = B := ⟨_, rfl⟩
    rw [hBB] at HoL HoR hBc HBl HBC
    have hBs : B ≤ wc.heap.size := by rw [← hBB]; exact hBc.size
    have hBx : B ≤ wx.heap.size := by rw [← hBB]; exact Nat.le_refl _
    have HXBl : Hid (Xb < B) := by show _ < _; rw [← hBB]; exact hXl
    clear hBB hXl
    have q7 : (s.toList == [38, 38]) = (bl s == [38, 38]) := str_is2 s _
    have q8 : (s.toList == [124, 124]) = (bl s == [124, 124]) := str_is2 s _
    obtain ⟨m, hm⟩ : ∃ m : Nat, rn + 1 = m := ⟨_, rfl⟩
    have hmi : (rn : Int) + 1 = (m : Int) := by omega
    have HM : Hid (m = r.length + 1) := by show _ = _; rw [← HRN.out]; exact hm.symm
    clear hm
    by_cases h1 : bl s = [38, 38]
    · have a2 : (bl s == [38, 38]) = true := by rw [h1]; rfl
      rw [a2] at q7
      have HZ1 : Hid (Z = jmpI wAnd l r) := by show _ = _; rw [← HZ.out]; unfold binI; rw [if_pos h1]
      clear h1 a2 q8
      have hal2 : Below wc.heap.size wc (wc.alloc (.cells #[.string (⟨#[97, 110, 100]⟩ : ByteArray), .int .i64 (m : Int)] 64)) := (Below.refl _ _).alloc (Nat.le_refl _) _
      have hl3 := HoL.out.on hal2
      have HO3 := hidI (HoR.out.on hal2)
      have HAP := HAP0
      have s2 := srcI_new (tx := 37) Tryd.underlying37 wc (⟨#[97, 110, 100]⟩ : ByteArray) (m : Int)
      have hb2 := hBc.trans (hal2.mono hBs)
      have hb2s := Nat.le_trans hBs hal2.size
      have HL3 := hidI hl3.lt
      have HR3 := hidI HO3.out.lt
      clear hal2
      go_upto_region 14 with (first
        | (at_builtin; refine appR rfl _ _ rfl B _ l rfl hl3 _ [((⟨#[97, 110, 100]⟩ : ByteArray), (m : Int))] rfl s2 (by simp; omega) hb2s ?_; intro vb mb vd w4 HMB ho5 hg5 hat5)
        | fail)
      have hr5 := HO3.out.keep (fun g hg => hg5.block g (HR3.out g hg).2 (fun e => HAP.out g e.symm hg))
      have hsrc5 := hr5.src (tx := 37) Tryd.underlying37
      have hb45 := hb2.grown hg5 hb2s (fun k hk => (HL3.out k hk).1)
      have hb5 := Nat.le_trans hBx hb45.size
      have s6 := fun w1 => srcI_new (tx := 37) Tryd.underlying37 w1 ⟨#[98, 111, 111, 108]⟩ 0
      clear hl3 s2
      go_wp2_with (first
        | (at_builtin; refine appR rfl _ _ rfl B _ (l ++ [((⟨#[97, 110, 100]⟩ : ByteArray), (m : Int))] ++ r) rfl ho8 _ [((⟨#[98, 111, 111, 108]⟩ : ByteArray), (0 : Int))] rfl hs8 (by simp; omega) hb8s ?_; intro vh mh vi w7 HMH ho9 hg9 hat9)
        | (at_builtin; refine appR rfl _ _ rfl B _ (l ++ [((⟨#[97, 110, 100]⟩ : ByteArray), (m : Int))]) rfl ho5 _ r rfl hsrc5 (by simp; omega) hb5 ?_; intro vf mf vg w6 HMF ho6 hg6 hat6; have hb6 := hb45.grown hg6 hb5 (fun k hk => (ho5.lt k hk).1); have hal6 : Below w6.heap.size w6 (w6.alloc (.cells #[.string ⟨#[98, 111, 111, 108]⟩, .int .i64 0] 64)) := (Below.refl _ _).alloc (Nat.le_refl _) _; have hb8 := hb6.trans (hal6.mono (Nat.le_trans hBx hb6.size)); have hb8s := Nat.le_trans hBx hb8.size; have ho8 := ho6.on hal6; have hs8 := s6 w6)
        | fail)
      go_ret
      have hbz := hb8.grown hg9 hb8s (fun k hk => (ho8.lt k hk).1)
      refine ⟨_, _, _, rfl, OwnI.low ?_ HBl.out, HBC.out _ hbz⟩
      have hmr : m = r.length + 1 := HM.out
      rw [HZ1.out]
      unfold jmpI wBool
      rw [← hmr, ← List.append_assoc]
      exact ho9
    have a2 : (bl s == [38, 38]) = false := beq_eq_false_iff_ne.2 h1
    rw [a2] at q7
    have H1 := hidI h1
    clear h1 a2
    by_cases h1 : bl s = [124, 124]
    · have a2 : (bl s == [124, 124]) = true := by rw [h1]; rfl
      rw [a2] at q8
      have HZ1 : Hid (Z = jmpI wOr l r) := by show _ = _; rw [← HZ.out]; unfold binI; rw [if_neg H1.out, if_pos h1]
      clear h1 a2
      have hal2 : Below wc.heap.size wc (wc.alloc (.cells #[.string (⟨#[111, 114]⟩ : ByteArray), .int .i64 (m : Int)] 64)) := (Below.refl _ _).alloc (Nat.le_refl _) _
      have hl3 := HoL.out.on hal2
      have HO3 := hidI (HoR.out.on hal2)
      have HAP := HAP0
      have s2 := srcI_new (tx := 37) Tryd.underlying37 wc (⟨#[111, 114]⟩ : ByteArray) (m : Int)
      have hb2 := hBc.trans (hal2.mono hBs)
      have hb2s := Nat.le_trans hBs hal2.size
      have HL3 := hidI hl3.lt
      have HR3 := hidI HO3.out.lt
      clear hal2
      go_upto_region 17 with (first
        | (at_builtin; refine appR rfl _ _ rfl B _ l rfl hl3 _ [((⟨#[111, 114]⟩ : ByteArray), (m : Int))] rfl s2 (by simp; omega) hb2s ?_; intro vb mb vd w4 HMB ho5 hg5 hat5)
        | fail)
      have hr5 := HO3.out.keep (fun g hg => hg5.block g (HR3.out g hg).2 (fun e => HAP.out g e.symm hg))
      have hsrc5 := hr5.src (tx := 37) Tryd.underlying37
      have hb45 := hb2.grown hg5 hb2s (fun k hk => (HL3.out k hk).1)
      have hb5 := Nat.le_trans hBx hb45.size
      have s6 := fun w1 => srcI_new (tx := 37) Tryd.underlying37 w1 ⟨#[98, 111, 111, 108]⟩ 0
      clear hl3 s2
      go_wp2_with (first
        | (at_builtin; refine appR rfl _ _ rfl B _ (l ++ [((⟨#[111, 114]⟩ : ByteArray), (m : Int))] ++ r) rfl ho8 _ [((⟨#[98, 111, 111, 108]⟩ : ByteArray), (0 : Int))] rfl hs8 (by simp; omega) hb8s ?_; intro vh mh vi w7 HMH ho9 hg9 hat9)
        | (at_builtin; refine appR rfl _ _ rfl B _ (l ++ [((⟨#[111, 114]⟩ : ByteArray), (m : Int))]) rfl ho5 _ r rfl hsrc5 (by simp; omega) hb5 ?_; intro vf mf vg w6 HMF ho6 hg6 hat6; have hb6 := hb45.grown hg6 hb5 (fun k hk => (ho5.lt k hk).1); have hal6 : Below w6.heap.size w6 (w6.alloc (.cells #[.string ⟨#[98, 111, 111, 108]⟩, .int .i64 0] 64)) := (Below.refl _ _).alloc (Nat.le_refl _) _; have hb8 := hb6.trans (hal6.mono (Nat.le_trans hBx hb6.size)); have hb8s := Nat.le_trans hBx hb8.size; have ho8 := ho6.on hal6; have hs8 := s6 w6)
        | fail)
      go_ret
      have hbz := hb8.grown hg9 hb8s (fun k hk => (ho8.lt k hk).1)
      refine ⟨_, _, _, rfl, OwnI.low ?_ HBl.out, HBC.out _ hbz⟩
      have hmr : m = r.length + 1 := HM.out
      rw [HZ1.out]
      unfold jmpI wBool
      rw [← hmr, ← List.append_assoc]
      exact ho9
    have a2 : (bl s == [124, 124]) = false := beq_eq_false_iff_ne.2 h1
    rw [a2] at q8
    have HZ1 : Hid (Z = l ++ r ++ [(s, 0)]) := by show _ = _; rw [← HZ.out]; unfold binI; rw [if_neg H1.out, if_neg h1]
    clear h1 a2
    have hsn := fun w1 => srcI_new (tx := 37) Tryd.underlying37 w1 s 0
    have HLT := hidI HoL.out.lt
    have hol := HoL.out
    have hsr := HoR.out.src (tx := 37) Tryd.underlying37
    go_upto_region 18 with fail
    have hald : Below wc.heap.size wc (wc.alloc (.cells #[.string s, .int .i64 0] 64)).drew := ((Below.refl _ wc).alloc (Nat.le_refl _) _).drew
    have holB := HoL.out.on hald
    have hsrB := (HoR.out.on hald).src (tx := 37) Tryd.underlying37
    have hnew := hidI (ownI_new wc 64 s 0 0 (Nat.zero_le _)).dr
    have hbd : Below B wx wc.drew := hBc.drew
    have hbB : Below B wx (wc.alloc (.cells #[.string s, .int .i64 0] 64)).drew := hBc.trans (hald.mono hBs)
    have hbBs := Nat.le_trans hBx hbB.size
    have hbds := Nat.le_trans hBx hbd.size
    have hold := hol.dr
    have hsrd := (HoR.out.dr).src (tx := 37) Tryd.underlying37
    have u2 := w2
    have v2 : (wc.alloc (.cells #[.string s, .int .i64 0] 64)).drew.cell? ⟨Xb, 2, none⟩ = some (.string s) := (hald.cell (p := ⟨Xb, 2, none⟩) (World.block_lt_of_cell? wc _ w2)).trans w2
    have HXB : Hid (Xb < B) := HXBl
    clear hol hsr hald
    go_region_held_law (fun w' => w'.cell? ⟨Xb, 2, none⟩ = some (.string s))
      (repeat (first | (with_reducible exact u2) | (with_reducible exact w22) | (with_reducible exact v2) | (with_reducible refine cellI_dr ?_)))
      (first
        | (refine stepR _ rfl _ _ rfl B _ (l ++ r) rfl hoB _ [(s, (0 : Int))] rfl hsB (by simp; omega) hbCs ?_; intro vh mh vi w7 HMH ho9 hg9 hat9; have u2 := keep_cell (p := ⟨Xb, 2, none⟩) (hg9.block Xb (World.block_lt_of_cell? _ _ u2) (fun e => by have := (hoB.lt Xb e.symm).1; have := HXB.out; omega)) u2; have hbz := hbC.grown hg9 hbCs (fun k hk => (hoB.lt k hk).1))
        | (refine stepR _ rfl _ _ rfl B _ l rfl holB _ r rfl hsrB (by omega) hbBs ?_; intro vf mf vg w6 HMF hoB hg6 hat6; have u2 := keep_cell (p := ⟨Xb, 2, none⟩) (hg6.block Xb (World.block_lt_of_cell? _ _ v2) (fun e => by have := (HLT.out Xb e.symm).1; have := HXB.out; omega)) v2; have hbC := hbB.grown hg6 hbBs (fun k hk => (HLT.out k hk).1); have hbCs := Nat.le_trans hBx hbC.size; have hsB := (hnew.out.keep (fun g hg => hg6.block g (hnew.out.lt g hg).2 (fun e => by have h8 := (HLT.out g e.symm).2; have h9 : wc.heap.size = g := Option.some.inj hg; omega))).src (tx := 37) Tryd.underlying37)
        | (refine stepR _ rfl _ _ rfl B _ l rfl hold _ r rfl hsrd (by omega) hbds ?_; intro vf mf vg w6 HMF ho6 hg6 hat6; have u2 := keep_cell (p := ⟨Xb, 2, none⟩) (hg6.block Xb (World.block_lt_of_cell? _ _ (cellI_dr w2)) (fun e => by have := (HLT.out Xb e.symm).1; have := HXB.out; omega)) (cellI_dr w2); have hb6 := hbd.grown hg6 hbds (fun k hk => (HLT.out k hk).1); have hal6 : Below w6.heap.size w6 (w6.alloc (.cells #[.string s, .int .i64 0] 64)) := (Below.refl _ _).alloc (Nat.le_refl _) _; have hbC := hb6.trans (hal6.mono (Nat.le_trans hBx hb6.size)); have hbCs := Nat.le_trans hBx hbC.size; have hoB := ho6.on hal6; have hsB := hsn w6; have w22 := u2; have u2 := (hal6.cell (p := ⟨Xb, 2, none⟩) (World.block_lt_of_cell? w6 _ u2)).trans u2)
        | fail)
    all_goals (
      simp only [List.getElem_toArray, List.getElem_cons_succ, List.getElem_cons_zero, List.set_cons_succ, List.set_cons_zero, List.setIfInBounds_toArray]
      go_wp2
      go_ret
      exact ⟨_, _, _, rfl, by rw [HZ1.out]; exact ho9.low HBl.out, HBC.out _ hbz⟩)
end Go.Proofs.YtpdhmjjmpofphaaDoor
