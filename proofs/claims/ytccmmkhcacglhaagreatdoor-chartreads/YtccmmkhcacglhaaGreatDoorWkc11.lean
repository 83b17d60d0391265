import Derived.Test.YtccmmkhcacglhaaGreatDoorWkc04
import Derived.Test.YtccmmkhcacglhaaGreatDoorWkc05
import Derived.Test.YtccmmkhcacglhaaGreatDoorWkc06
import Derived.Deep.DeepCutAuto
import Derived.Deep.RegionHeldLaw
import Derived.Shelf.LaysC
import Derived.Shelf.Strconv.AtoiAll
import Derived.Test.YtccmmkhcacglhaaGreatDoorRows
import Derived.Test.YtccmmkhcacglhaaGreatDoorWkc08
import Derived.Test.YtccmmkhcacglhaaGreatDoorWkc10

/- Charts in the program's memory. -/
namespace Go.Proofs.YtccmmkhcacglhaaGreatDoor
open Go.RowKit Go.Lib
set_option linter.unusedSimpArgs false
set_option linter.unusedVariables false

/-- A text of bytes as a value. -/
def sV (l : List UInt8) : Value := .string ⟨l.toArray⟩
def rSet (ok : Nat → Prop) (w : World) (x : List UInt8 × Sx) (cs : List Value) : Prop := cs = [sV x.1, exX x.2]
theorem kp_set : Kp rSet := fun _ _ _ _ _ _ h _ => h
/-- The guard: nil where there is none. -/
def gdV (g : Bool × Sx) : Value := if g.1 = true then exX g.2 else .nilIface
theorem gdV_form (g : Bool × Sx) : gdV g = .nilIface ∨ ∃ u y, gdV g = .iface u y := by
  unfold gdV
  split
  · exact exX_form _
  · exact .inl rfl
def onV (o : OnC) (sl : Value) : List Value := [sV o.1, gdV o.2.1, sV o.2.2.1, sl, .int .i64 o.2.2.2.2.1, .int .i64 o.2.2.2.2.2]
def rOn (ok : Nat → Prop) (w : World) (o : OnC) (cs : List Value) : Prop := ∃ sl, cs = onV o sl ∧ RdK ok w 2 (rSet ok w) o.2.2.2.1 sl
theorem kp_on : Kp rOn := fun _ _ _ _ _ _ ⟨sl, h, hr⟩ hk => ⟨sl, h, hr.stay kp_set hk⟩
def hdV (h : HdC) (so si : Value) : List Value := [sV h.1.1, .int .i64 h.1.2.1, .int .i64 h.1.2.2, .bool h.2.1.1, .bool h.2.1.2, sV h.2.2.1.1, sV h.2.2.1.2, .int .i64 h.2.2.2.1.1, .int .i64 h.2.2.2.1.2, so, si]
def rSt : (d : Nat) → (Nat → Prop) → World → St d → List Value → Prop
  | 0, _, _, t, _ => Empty.elim t
  | d + 1, ok, w, t, cs => ∃ so si, cs = hdV t.1 so si ∧ RdK ok w 6 (rOn ok w) t.1.2.2.2.2 so ∧ RdK ok w 11 (rSt d ok w) t.2 si
theorem kp_st : ∀ d, Kp (rSt d)
  | 0 => fun _ _ _ _ x _ _ _ => Empty.elim x
  | d + 1 => fun _ _ _ _ _ _ ⟨so, si, h, h1, h2⟩ hk => ⟨so, si, h, h1.stay kp_on hk, h2.stay (kp_st d) hk⟩
def varV (x : List UInt8 × Int × Pl) : List Value := [sV x.1, .int .i64 x.2.1, .int .i64 x.2.2.1, .int .i64 x.2.2.2]
def rVar (ok : Nat → Prop) (w : World) (x : List UInt8 × Int × Pl) (cs : List Value) : Prop := cs = varV x
theorem kp_var : Kp rVar := fun _ _ _ _ _ _ h _ => h
/-- A chart whose states lie less than d deep. -/
abbrev ChG (d : Nat) := (List UInt8 × Pl) × Int × List (List UInt8 × Int × Pl) × List (St d)
def RdC (ok : Nat → Prop) (w : World) (d : Nat) (c : ChG d) (v : Value) : Prop :=
  ∃ sv ss, v = .agg #[sV c.1.1, .int .i64 c.2.1, .int .i64 c.1.2.1, .int .i64 c.1.2.2, sv, ss] ∧ RdK ok w 4 (rVar ok w) c.2.2.1 sv ∧ RdK ok w 11 (rSt d ok w) c.2.2.2 ss
theorem RdC.keep {ok ok' : Nat → Prop} {w w' : World} {d : Nat} {c : ChG d} {v : Value} (h : RdC ok w d c v) (hk : ∀ b, ok b → b < w.heap.size → ok' b ∧ w'.heap[b]? = w.heap[b]?) : RdC ok' w' d c v := by
  obtain ⟨sv, ss, h1, h2, h3⟩ := h
  exact ⟨sv, ss, h1, h2.stay kp_var hk, h3.stay (kp_st d) hk⟩
theorem rdC_no (ok : Nat → Prop) (w : World) : RdC ok w 7 noC (.agg #[.string ⟨#[]⟩, .int .i64 0, .int .i64 0, .int .i64 0, .slice none 0 0, .slice none 0 0]) := ⟨_, _, rfl, rdK_none _ _ _ _, rdK_none _ _ _ _⟩
end Go.Proofs.YtccmmkhcacglhaaGreatDoor

/- The program's reader of charts in memory; what its fail and sees do. -/
namespace Go.Proofs.YtccmmkhcacglhaaGreatDoor
open Go.RowKit Go.Lib
set_option linter.unusedSimpArgs false
set_option linter.unusedVariables false
attribute [local go_sem ↓] Go.wp_at_zero Go.wp_at_succ

/-- The reader in block X stands where r does. -/
def Pr (w : World) (X : Nat) (a : Option Addr) (cap : Nat) (ws : List Wd) (fin : Pl) (r : RsC) : Prop :=
  ∃ n, Rr w X a cap ws n r.2.2 ∧ r.1 = ws.drop n ∧ n ≤ ws.length ∧ (r.2.2 ≠ 0 → r.2.1 = hereR fin r)
theorem Pr.lt {w : World} {X : Nat} {a : Option Addr} {cap : Nat} {ws : List Wd} {fin : Pl} {r : RsC} (h : Pr w X a cap ws fin r) : X < w.heap.size := by
  obtain ⟨n, h, _⟩ := h
  exact h.lt
theorem Pr.on {w w' : World} {X : Nat} {a : Option Addr} {cap : Nat} {ws : List Wd} {fin : Pl} {r : RsC} (h : Pr w X a cap ws fin r) (hb : Below w.heap.size w w') : Pr w' X a cap ws fin r := by
  obtain ⟨n, h1, h2, h3, h4⟩ := h
  exact ⟨n, h1.on hb, h2, h3, h4⟩
theorem Pr.far {w : World} {X Y i : Nat} {a : Option Addr} {cap : Nat} {ws : List Wd} {fin : Pl} {r : RsC} (h : Pr w X a cap ws fin r) (hY : X < Y) (u : Value) : Pr (w.setCell ⟨Y, i, none⟩ u) X a cap ws fin r := by
  obtain ⟨n, h1, h2, h3, h4⟩ := h
  exact ⟨n, h1.far hY u, h2, h3, h4⟩
theorem drop_cons {ws : List Wd} {n : Nat} {x : Wd} {l : List Wd} (h : x :: l = ws.drop n) : n < ws.length ∧ l = ws.drop (n + 1) ∧ ∀ hn : n < ws.length, ws[n] = x := by
  have hn : n < ws.length := by
    rcases Nat.lt_or_ge n ws.length with h' | h'
    · exact h'
    · rw [List.drop_eq_nil_of_le h'] at h; cases h
  rw [List.drop_eq_getElem_cons hn] at h
  injection h with h1 h2
  exact ⟨hn, h2, fun _ => h1.symm⟩
theorem drop_nil {ws : List Wd} {n : Nat} (h : [] = ws.drop n) (hn : n ≤ ws.length) : n = ws.length := by
  have := congrArg List.length h
  rw [List.length_drop] at this
  simp at this
  omega
/-- A fault is kept. -/
theorem Pr.bad {w : World} {X n : Nat} {a : Option Addr} {cap : Nat} {ws : List Wd} {fin : Pl} {r : RsC} {e : Int} (h : Rr w X a cap ws n (if r.2.2 = 0 then e else r.2.2)) (h1 : r.1 = ws.drop n) (h2 : n ≤ ws.length) (h3 : r.2.2 ≠ 0 → r.2.1 = hereR fin r) : Pr w X a cap ws fin (failC e (hereR fin r) r) := by
  unfold failC
  by_cases h0 : r.2.2 = 0
  · rw [if_pos h0] at h ⊢
    exact ⟨n, h, h1, h2, fun _ => rfl⟩
  · rw [if_neg h0] at h ⊢
    exact ⟨n, h, h1, h2, h3⟩
/-- A word is taken. -/
theorem Pr.step {w : World} {X n : Nat} {a : Option Addr} {cap : Nat} {ws : List Wd} {fin : Pl} {r : RsC} {x : Wd} {l : List Wd} (h : Rr w X a cap ws (n + 1) r.2.2) (h1 : x :: l = ws.drop n) (h0 : r.2.2 = 0) : Pr w X a cap ws fin (l, r.2) := by
  obtain ⟨hn, hl, _⟩ := drop_cons h1
  exact ⟨n + 1, h, hl, hn, fun e => absurd h0 e⟩
set_option maxRecDepth 100000 in
set_option maxHeartbeats 4000000 in
theorem pfail_any {w : World} {X : Nat} {a : Option Addr} {cap : Nat} {ws : List Wd} {n : Nat} {b : Int} (h : Rr w X a cap ws n b) (e : Int) :
    Calls Tryz.prog 75 #[.pointer (some ⟨X, 0, none⟩), .int .i64 e] w fun x w' => (∃ u, x = .returned u) ∧ Rr w' X a cap ws n (if b = 0 then e else b) ∧ Fx X w w' := by
  have hS := h.set2 e
  obtain ⟨c0, c1, c2, f1, f2, hL⟩ := id h
  by_cases hb : b = 0
  · rw [if_pos hb]
    have i1 : (b == 0) = true := by simpa using hb
    clear hL hb
    go_enter Tryz.func75, Tryz.ntmps75
    go_wp2
    go_end0
    exact ⟨⟨_, rfl⟩, hS, (Fx.refl X w).setX _⟩
  · rw [if_neg hb]
    have i1 : (b == 0) = false := by simpa using hb
    clear hL hb hS
    go_enter Tryz.func75, Tryz.ntmps75
    go_wp2
    go_end0
    exact ⟨⟨_, rfl⟩, h, Fx.refl X w⟩
set_option maxRecDepth 100000 in
set_option maxHeartbeats 4000000 in
theorem sees_any {w : World} {X : Nat} {a : Option Addr} {cap : Nat} {ws : List Wd} {fin : Pl} {r : RsC} (h : Pr w X a cap ws fin r) (hk : Wk ws cap) (t : List UInt8) :
    Calls Tryz.prog 73 #[.pointer (some ⟨X, 0, none⟩), .string ⟨t.toArray⟩] w fun e w' => e = .returned (.bool (isC t r)) ∧ ∃ m, w' = w.drewN m := by
  obtain ⟨n, ⟨c0, c1, c2, f1, f2, hL⟩, h1, h2, h3⟩ := h
  have hcap := hk.c
  have hlen := hk.l
  obtain ⟨b, hb⟩ : ∃ b, r.2.2 = b := ⟨_, rfl⟩
  unfold isC
  rw [hb] at c2 ⊢
  have i2 : (0 : Int) ≤ (n : Int) := by omega
  by_cases hz : b = 0
  · subst hz
    cases hr : r.1 with
    | cons x l =>
      rw [hr] at h1
      obtain ⟨hn, _, hx⟩ := drop_cons h1
      obtain ⟨g, off, rfl, hgX, d0, d1, d2, d3⟩ := hL n hn
      have i1 : (n : Int) < (ws.length : Int) := by omega
      have hd1 : w.cell? ⟨g, off + n * 4 + 1, none⟩ = some (.string ⟨(tkW x).2.toArray⟩) := by rw [hx hn] at d1; exact d1
      obtain ⟨bs, hbs⟩ : ∃ bs, (tkW x).2 = bs := ⟨_, rfl⟩
      simp only [hbs] at hd1 ⊢
      clear d0 d1 d2 d3 hL hbs h1 hx hr h2 h3
      by_cases hq : bs = t
      · have i3 : (bs == t) = true := by rw [hq]; simp
        rw [decide_eq_true hq]
        clear hq
        go_enter Tryz.func73, Tryz.ntmps73
        go_wp2
        go_quiet (fail)
        go_wp2
        go_ret
        exact ⟨rfl, _, rfl⟩
      · have i3 : (bs == t) = false := beq_eq_false_iff_ne.2 hq
        rw [decide_eq_false hq]
        clear hq
        go_enter Tryz.func73, Tryz.ntmps73
        go_wp2
        go_quiet (fail)
        go_wp2
        go_ret
        exact ⟨rfl, _, rfl⟩
    | nil =>
      rw [hr] at h1
      have hn := drop_nil h1 h2
      have i1 : decide (n < ws.length) = false := decide_eq_false (by omega)
      have i3 : ¬ n < ws.length := by omega
      simp only [Bool.and_false]
      clear hL h1 h2 h3 hr hn
      go_enter Tryz.func73, Tryz.ntmps73
      go_wp2
      go_quiet (fail)
      go_wp2
      go_ret
      exact ⟨rfl, _, rfl⟩
  · have i1 : (b == 0) = false := by simpa using hz
    rw [decide_eq_false hz]
    simp only [Bool.false_and]
    clear hL hz h1 h3
    go_enter Tryz.func73, Tryz.ntmps73
    go_wp2
    go_quiet (fail)
    go_wp2
    go_ret
    exact ⟨rfl, _, rfl⟩
end Go.Proofs.YtccmmkhcacglhaaGreatDoor

/- What the program's skips, must and last do. -/
namespace Go.Proofs.YtccmmkhcacglhaaGreatDoor
open Go.RowKit Go.Lib
set_option linter.unusedSimpArgs false
set_option linter.unusedVariables false
attribute [local go_sem ↓] Go.wp_at_zero Go.wp_at_succ

/-- The word is taken, if it is the next one. -/
def skR (fin : Pl) (t : List UInt8) (r : RsC) : RsC := if isC t r = true then takeR fin t r else r
theorem skR_yes {fin : Pl} {t : List UInt8} {r : RsC} (h : isC t r = true) : skR fin t r = takeR fin t r := if_pos h
theorem skR_no {fin : Pl} {t : List UInt8} {r : RsC} (h : isC t r = false) : skR fin t r = r := if_neg (by rw [h]; decide)
theorem isC_cons {t : List UInt8} {r : RsC} (h : isC t r = true) : r.2.2 = 0 ∧ ∃ x l, r.1 = x :: l := by
  refine ⟨isC_ok h, ?_⟩
  unfold isC at h
  cases hr : r.1 with
  | nil => rw [hr] at h; simp at h
  | cons x l => exact ⟨x, l, rfl⟩
set_option maxRecDepth 100000 in
set_option maxHeartbeats 4000000 in
theorem skips_any {w : World} {X : Nat} {a : Option Addr} {cap : Nat} {ws : List Wd} {fin : Pl} {r : RsC} (h : Pr w X a cap ws fin r) (hk : Wk ws cap) (t : List UInt8) :
    Calls Tryz.prog 71 #[.pointer (some ⟨X, 0, none⟩), .string ⟨t.toArray⟩] w fun e w' => e = .returned (.bool (isC t r)) ∧ Pr w' X a cap ws fin (skR fin t r) ∧ Fx X w w' := by
  have hS := sees_any h hk t
  cases hi : isC t r with
  | true =>
    rw [hi] at hS
    rw [skR_yes hi]
    obtain ⟨h0, x, l, hr⟩ := isC_cons hi
    have e : takeR fin t r = (l, r.2) := by unfold takeR; rw [if_pos hi, hr]; rfl
    rw [e]
    obtain ⟨n, h1, h2, h3, h4⟩ := id h
    rw [hr] at h2
    have hlen := hk.l
    have i5 : IntKind.i64.wrap ((n : Int) + 1) = (n : Int) + 1 := by rw [IntKind.wrap_i64]; omega
    go_enter Tryz.func71, Tryz.ntmps71
    go_upto_region 3 with (first
      | (go_at_call 73; refine hS.mono ?_; rintro e w1 ⟨rfl, m, rfl⟩))
    have hR1 := h1.on (draws w m)
    have hR2 := hR1.set1 (n + 1)
    have hF : Fx X w ((w.drewN m).setCell ⟨X, 1, none⟩ (.int .i64 ((n + 1 : Nat) : Int))) := ((Fx.refl X w).drewN m).setX _
    obtain ⟨c0, c1, c2, f1, f2, hL⟩ := id hR1
    clear hL hS h h1 h4 hi e
    generalize w.drewN m = w1 at *
    go_wp2
    go_ret
    refine ⟨rfl, ?_, ?_⟩
    · exact Pr.step hR2 h2 h0
    · exact hF
  | false =>
    rw [hi] at hS
    rw [skR_no hi]
    go_enter Tryz.func71, Tryz.ntmps71
    go_wp2_with (first
      | (go_at_call 73; refine hS.mono ?_; rintro e w1 ⟨rfl, m, rfl⟩))
    go_ret
    exact ⟨rfl, h.on (draws w m), (Fx.refl X w).drewN m⟩
set_option maxRecDepth 100000 in
set_option maxHeartbeats 4000000 in
theorem must_any {w : World} {X : Nat} {a : Option Addr} {cap : Nat} {ws : List Wd} {fin : Pl} {r : RsC} (h : Pr w X a cap ws fin r) (hk : Wk ws cap) (t : List UInt8) :
    Calls Tryz.prog 68 #[.pointer (some ⟨X, 0, none⟩), .string ⟨t.toArray⟩] w fun e w' => (∃ u, e = .returned u) ∧ Pr w' X a cap ws fin (takeR fin t r) ∧ Fx X w w' := by
  have hS := skips_any h hk t
  cases hi : isC t r with
  | true =>
    rw [hi, skR_yes hi] at hS
    go_enter Tryz.func68, Tryz.ntmps68
    go_wp2_with (first
      | (go_at_call 71; refine hS.mono ?_; rintro e w1 ⟨rfl, hp, hf⟩))
    go_end0
    exact ⟨⟨_, rfl⟩, hp, hf⟩
  | false =>
    rw [hi, skR_no hi] at hS
    rw [take_not hi]
    have hF := fun w1 n (hr : Rr w1 X a cap ws n r.2.2) => pfail_any hr 12
    go_enter Tryz.func68, Tryz.ntmps68
    go_wp2_with (first
      | (go_at_call 71; refine hS.mono ?_; rintro e w1 ⟨rfl, ⟨n, hr, h1, h2, h3⟩, hf⟩)
      | (go_at_call 75; refine (hF _ _ hr).mono ?_; rintro e w2 ⟨⟨u, rfl⟩, hr2, hf2⟩))
    go_end0
    exact ⟨⟨_, rfl⟩, Pr.bad hr2 h1 h2 h3, hf.trans hf2⟩
set_option maxRecDepth 100000 in
set_option maxHeartbeats 4000000 in
theorem last_p {w : World} {X : Nat} {a : Option Addr} {cap : Nat} {ws : List Wd} {fin : Pl} {r : RsC} (h : Pr w X a cap ws fin r) (hk : Wk ws cap) :
    Calls Tryz.prog 27 #[.pointer (some ⟨X, 0, none⟩)] w fun e w' => (∃ u, e = .returned u) ∧ Pr w' X a cap ws fin (lastR fin r) ∧ Fx X w w' := by
  obtain ⟨n, h1, h2, h3, h4⟩ := id h
  have hcap := hk.c
  have hF := fun w1 (hr : Rr w1 X a cap ws n r.2.2) => pfail_any hr 12
  obtain ⟨c0, c1, c2, f1, f2, hL⟩ := id h1
  clear hL
  have hlast : ∀ w', Rr w' X a cap ws n (if r.2.2 = 0 then 12 else r.2.2) → n < ws.length → Pr w' X a cap ws fin (lastR fin r) := fun w' hr hn => by
    have hne : r.1 ≠ [] := by
      rw [h2]
      intro e
      have := congrArg List.length e
      rw [List.length_drop] at this
      simp at this
      omega
    unfold lastR
    by_cases h0 : r.2.2 = 0
    · rw [if_pos ⟨h0, hne⟩]; exact Pr.bad hr h2 h3 h4
    · rw [if_neg (fun e => h0 e.1)]
      rw [if_neg h0] at hr
      exact ⟨n, hr, h2, h3, h4⟩
  by_cases hn : n < ws.length
  · have i1 : decide ((n : Int) < (ws.length : Int)) = true := decide_eq_true (by omega)
    have HL : Hid (∀ w', Rr w' X a cap ws n (if r.2.2 = 0 then 12 else r.2.2) → n < ws.length → Pr w' X a cap ws fin (lastR fin r)) := hlast
    obtain ⟨b, hb⟩ : ∃ b, r.2.2 = b := ⟨_, rfl⟩
    clear hlast h2 h4
    go_enter Tryz.func27, Tryz.ntmps27
    go_wp2
    go_quiet (fail)
    have hr1 := h1.on (draws w nq)
    go_wp2_with (first
      | (go_at_call 75; refine (hF _ hr1).mono ?_; rintro e w2 ⟨⟨u, rfl⟩, hr2, hf2⟩))
    go_end0
    exact ⟨⟨_, rfl⟩, HL.out _ hr2 hn, ((Fx.refl X w).drewN _).trans hf2⟩
  · have i1 : decide (n < ws.length) = false := decide_eq_false hn
    have e : lastR fin r = r := by
      unfold lastR
      rw [if_neg]
      rintro ⟨_, q⟩
      exact q (by rw [h2]; exact List.drop_eq_nil_of_le (by omega))
    rw [e]
    clear hlast h2 h4 e
    go_enter Tryz.func27, Tryz.ntmps27
    go_wp2
    go_quiet (fail)
    go_wp2
    go_end0
    exact ⟨⟨_, rfl⟩, h.on (draws w _), (Fx.refl X w).drewN _⟩
end Go.Proofs.YtccmmkhcacglhaaGreatDoor

/- Contracts of the library at this program. -/
namespace Go.Proofs.YtccmmkhcacglhaaGreatDoor
open Go.Shelf
set_option linter.unusedVariables false

def renA : Ren := { f := fun x => match x with | 172 => 112 | 244 => 145 | 245 => 146 | 247 => 170 | 279 => 171 | 280 => 172 | 281 => 173 | 282 => 174 | 287 => 190 | 316 => 87 | 171 => 54 | 205 => 191 | 321 => 209 | 322 => 210 | 243 => 92 | 246 => 93 | 283 => 134 | 284 => 135 | 285 => 136 | 286 => 137 | 129 => 161 | 317 => 160 | 318 => 162 | 319 => 163 | 320 => 164 | 337 => 181 | 338 => 182 | n => n, t := fun x => match x with | 9 => 9 | 3 => 3 | 75 => 168 | 76 => 169 | 4 => 4 | 5 => 5 | 167 => 229 | 37 => 98 | 0 => 0 | 85 => 230 | 2 => 2 | 168 => 232 | 53 => 198 | 175 => 258 | 46 => 225 | 210 => 261 | 127 => 158 | 145 => 285 | 143 => 283 | 21 => 21 | 171 => 197 | 173 => 201 | 212 => 222 | 51 => 223 | 20 => 20 | 213 => 224 | 232 => 273 | 233 => 274 | 80 => 104 | n => n, g := fun x => match x with | 15 => 3 | 16 => 4 | 17 => 0 | 18 => 5 | 19 => 6 | n => n }
theorem laysA : LaysC.n172 Tryz.prog renA :=
  { mixed := by kernel_rfl, f129 := Tryz.func161.trans (congrArg some (by kernel_rfl)), f171 := Tryz.func54.trans (congrArg some (by kernel_rfl)), f172 := Tryz.func112.trans (congrArg some (by kernel_rfl)), f205 := Tryz.func191.trans (congrArg some (by kernel_rfl)), f243 := Tryz.func92.trans (congrArg some (by kernel_rfl)), f244 := Tryz.func145.trans (congrArg some (by kernel_rfl)), f245 := Tryz.func146.trans (congrArg some (by kernel_rfl)), f246 := Tryz.func93.trans (congrArg some (by kernel_rfl)), f247 := Tryz.func170.trans (congrArg some (by kernel_rfl)), f279 := Tryz.func171.trans (congrArg some (by kernel_rfl)), f280 := Tryz.func172.trans (congrArg some (by kernel_rfl)), f281 := Tryz.func173.trans (congrArg some (by kernel_rfl)), f282 := Tryz.func174.trans (congrArg some (by kernel_rfl)), f283 := Tryz.func134.trans (congrArg some (by kernel_rfl)), f284 := Tryz.func135.trans (congrArg some (by kernel_rfl)), f285 := Tryz.func136.trans (congrArg some (by kernel_rfl)), f286 := Tryz.func137.trans (congrArg some (by kernel_rfl)), f287 := Tryz.func190.trans (congrArg some (by kernel_rfl)), f316 := Tryz.func87.trans (congrArg some (by kernel_rfl)), f317 := Tryz.func160.trans (congrArg some (by kernel_rfl)), f318 := Tryz.func162.trans (congrArg some (by kernel_rfl)), f319 := Tryz.func163.trans (congrArg some (by kernel_rfl)), f320 := Tryz.func164.trans (congrArg some (by kernel_rfl)), f321 := Tryz.func209.trans (congrArg some (by kernel_rfl)), f322 := Tryz.func210.trans (congrArg some (by kernel_rfl)), f337 := Tryz.func181.trans (congrArg some (by kernel_rfl)), f338 := Tryz.func182.trans (congrArg some (by kernel_rfl)), t0 := Tryz.underlying0, a0 := Tryz.isAgg0, z0 := Tryz.sizeOf0, v0 := Tryz.zeroValue0, t2 := Tryz.underlying2, a2 := Tryz.isAgg2, z2 := Tryz.sizeOf2, v2 := Tryz.zeroValue2, t3 := Tryz.underlying3, a3 := Tryz.isAgg3, z3 := Tryz.sizeOf3, v3 := Tryz.zeroValue3, t4 := Tryz.underlying4, a4 := Tryz.isAgg4, z4 := Tryz.sizeOf4, v4 := Tryz.zeroValue4, t5 := Tryz.underlying5, a5 := Tryz.isAgg5, z5 := Tryz.sizeOf5, v5 := Tryz.zeroValue5, t9 := Tryz.underlying9, a9 := Tryz.isAgg9, z9 := Tryz.sizeOf9, v9 := Tryz.zeroValue9, t20 := Tryz.underlying20, a20 := Tryz.isAgg20, z20 := Tryz.sizeOf20, v20 := Tryz.zeroValue20, t21 := Tryz.underlying21, a21 := Tryz.isAgg21, z21 := Tryz.sizeOf21, v21 := Tryz.zeroValue21, t37 := Tryz.underlying98, a37 := Tryz.isAgg98, z37 := Tryz.sizeOf98, v37 := Tryz.zeroValue98, t46 := Tryz.underlying225, a46 := Tryz.isAgg225, z46 := Tryz.sizeOf225, v46 := Tryz.zeroValue225, t51 := Tryz.underlying223, a51 := Tryz.isAgg223, z51 := Tryz.sizeOf223, v51 := Tryz.zeroValue223, t53 := Tryz.underlying198, a53 := Tryz.isAgg198, z53 := Tryz.sizeOf198, v53 := Tryz.zeroValue198, t75 := Tryz.underlying168, a75 := Tryz.isAgg168, z75 := Tryz.sizeOf168, v75 := Tryz.zeroValue168, t76 := Tryz.underlying169, a76 := Tryz.isAgg169, z76 := Tryz.sizeOf169, v76 := Tryz.zeroValue169, t85 := Tryz.underlying230, a85 := Tryz.isAgg230, z85 := Tryz.sizeOf230, v85 := Tryz.zeroValue230, t127 := Tryz.underlying158, a127 := Tryz.isAgg158, z127 := Tryz.sizeOf158, v127 := Tryz.zeroValue158, t143 := Tryz.underlying283, a143 := Tryz.isAgg283, z143 := Tryz.sizeOf283, v143 := Tryz.zeroValue283, t145 := Tryz.underlying285, a145 := Tryz.isAgg285, z145 := Tryz.sizeOf285, v145 := Tryz.zeroValue285, t167 := Tryz.underlying229, a167 := Tryz.isAgg229, z167 := Tryz.sizeOf229, v167 := Tryz.zeroValue229, t168 := Tryz.underlying232, a168 := Tryz.isAgg232, z168 := Tryz.sizeOf232, v168 := Tryz.zeroValue232, t171 := Tryz.underlying197, a171 := Tryz.isAgg197, z171 := Tryz.sizeOf197, v171 := Tryz.zeroValue197, t173 := Tryz.underlying201, a173 := Tryz.isAgg201, z173 := Tryz.sizeOf201, v173 := Tryz.zeroValue201, t175 := Tryz.underlying258, a175 := Tryz.isAgg258, z175 := Tryz.sizeOf258, v175 := Tryz.zeroValue258, t210 := Tryz.underlying261, a210 := Tryz.isAgg261, z210 := Tryz.sizeOf261, v210 := Tryz.zeroValue261, t212 := Tryz.underlying222, a212 := Tryz.isAgg222, z212 := Tryz.sizeOf222, v212 := Tryz.zeroValue222, t213 := Tryz.underlying224, a213 := Tryz.isAgg224, z213 := Tryz.sizeOf224, t232 := Tryz.underlying273, a232 := Tryz.isAgg273, z232 := Tryz.sizeOf273, v232 := Tryz.zeroValue273, t233 := Tryz.underlying274, a233 := Tryz.isAgg274, z233 := Tryz.sizeOf274, v233 := Tryz.zeroValue274, g15 := by kernel_rfl, g16 := by kernel_rfl, g17 := by kernel_rfl, g18 := by kernel_rfl, g19 := by kernel_rfl, t80 := Tryz.underlying104, a80 := Tryz.isAgg104, z80 := Tryz.sizeOf104, v80 := Tryz.zeroValue104, i0 := by kernel_rfl, i2 := by kernel_rfl, i3 := by kernel_rfl, i4 := by kernel_rfl, i5 := by kernel_rfl, i9 := by kernel_rfl, i20 := by kernel_rfl, i21 := by kernel_rfl, i37 := by kernel_rfl, i46 := by kernel_rfl, i51 := by kernel_rfl, i53 := by kernel_rfl, i75 := by kernel_rfl, i76 := by kernel_rfl, i80 := by kernel_rfl, i85 := by kernel_rfl, i127 := by kernel_rfl, i143 := by kernel_rfl, i145 := by kernel_rfl, i167 := by kernel_rfl, i168 := by kernel_rfl, i171 := by kernel_rfl, i173 := by kernel_rfl, i175 := by kernel_rfl, i210 := by kernel_rfl, i212 := by kernel_rfl, i232 := by kernel_rfl, i233 := by kernel_rfl, m15 := by kernel_rfl, m16 := by kernel_rfl, m17 := by kernel_rfl, m18 := by kernel_rfl, m19 := by kernel_rfl, c0 := by kernel_rfl, c2 := by kernel_rfl, c3 := by kernel_rfl, c4 := by kernel_rfl, c5 := by kernel_rfl, c9 := by kernel_rfl, c20 := by kernel_rfl, c21 := by kernel_rfl, c37 := by kernel_rfl, c46 := by kernel_rfl, c51 := by kernel_rfl, c53 := by kernel_rfl, c75 := by kernel_rfl, c76 := by kernel_rfl, c80 := by kernel_rfl, c85 := by kernel_rfl, c127 := by kernel_rfl, c143 := by kernel_rfl, c145 := by kernel_rfl, c167 := by kernel_rfl, c168 := by kernel_rfl, c171 := by kernel_rfl, c173 := by kernel_rfl, c175 := by kernel_rfl, c210 := by kernel_rfl, c212 := by kernel_rfl, c213 := by kernel_rfl, c232 := by kernel_rfl, c233 := by kernel_rfl }
end Go.Proofs.YtccmmkhcacglhaaGreatDoor

/- What the program's word, name and number do. -/
namespace Go.Proofs.YtccmmkhcacglhaaGreatDoor
open Go.RowKit Go.Lib
set_option linter.unusedSimpArgs false
set_option linter.unusedVariables false
attribute [local go_sem ↓] Go.wp_at_zero Go.wp_at_succ

/-- A word of a kind that isn't reserved. -/
def wordR (k : Nat) (fin : Pl) (r : RsC) : Option Wd × RsC := match r.1 with
  | [] => (none, failC 12 (hereR fin r) r)
  | x :: l => if r.2.2 = 0 ∧ x.1 = k ∧ rsvB (tkW x).2 = false then (some x, (l, r.2)) else (none, failC 12 (hereR fin r) r)
def wdA : Option Wd → Value
  | none => .agg #[.int .i64 0, .string ⟨#[]⟩, .int .i64 0, .int .i64 0]
  | some x => .agg #[.int .i64 (x.1 : Int), .string (txt x.2.1), .int .i64 x.2.2.1, .int .i64 x.2.2.2]
theorem at4_res {w4 : World} {R : Nat} {a b c e : Value} {tmps : Array Value} (hR : World.cell? w4 ⟨R, 0, none⟩ = some a ∧ World.cell? w4 ⟨R, 1, none⟩ = some b ∧ World.cell? w4 ⟨R, 2, none⟩ = some c ∧ World.cell? w4 ⟨R, 3, none⟩ = some e) (ht : tmps.getD 4 undef = .pointer (some ⟨R, 0, none⟩)) : (results Tryz.f111 tmps).run Tryz.prog w4 = .ok (.agg #[a, b, c, e]) w4 := by
  obtain ⟨c0, c1, c2, c3⟩ := hR
  have ht' : tmps[4]?.getD undef = .pointer (some ⟨R, 0, none⟩) := by simpa using ht
  simp [results, Tryz.results111, go_sem, ht', c0, c1, c2, c3]
theorem B4.atP {w : World} {N : Nat} {a b c e : Value} (h : B4 w N a b c e) : w.cell? ⟨N, 0, none⟩ = some a ∧ w.cell? ⟨N, 1, none⟩ = some b ∧ w.cell? ⟨N, 2, none⟩ = some c ∧ w.cell? ⟨N, 3, none⟩ = some e := ⟨h.c0, h.c1, h.c2, h.c3⟩
theorem B4.fxP {w w' : World} {X N : Nat} {a b c e : Value} (h : B4 w N a b c e) (hf : Fx X w w') (hN : N ≠ X) : B4 w' N a b c e := by
  have hb : w'.heap[N]? = w.heap[N]? := hf.block N h.lt (fun q => hN (Option.some.inj q))
  have hc : ∀ i, w'.cell? ⟨N, i, none⟩ = w.cell? ⟨N, i, none⟩ := fun i => World.cell?_of_block (w := w) (a := ⟨N, i, none⟩) hb
  have hz : ∀ i, w'.frozen? ⟨N, i, none⟩ = w.frozen? ⟨N, i, none⟩ := fun i => World.frozen?_of_block (w := w) (a := ⟨N, i, none⟩) hb
  exact ⟨(hc 0).trans h.c0, (hc 1).trans h.c1, (hc 2).trans h.c2, (hc 3).trans h.c3, (hz 0).trans h.f0, (hz 1).trans h.f1, (hz 2).trans h.f2, (hz 3).trans h.f3⟩
theorem Fx.put4' {X N : Nat} {a b : World} (h : Fx X a b) (hN : a.heap.size ≤ N) (c0 c1 c2 c3 : Value) : Fx X a (Go.Proofs.YtccmmkhcacglhaaGreatDoor.put4 b N c0 c1 c2 c3) := (((h.setN hN c0).setN hN c1).setN hN c2).setN hN c3
theorem Rr.put4 {w : World} {X N : Nat} {a : Option Addr} {cap : Nat} {ws : List Wd} {n : Nat} {b : Int} (h : Rr w X a cap ws n b) (hN : X < N) (c0 c1 c2 c3 : Value) : Rr (put4 w N c0 c1 c2 c3) X a cap ws n b := (((h.far hN c0).far hN c1).far hN c2).far hN c3
abbrev zGW : Obj := .cells #[.int .i64 0, .string ⟨#[]⟩, .int .i64 0, .int .i64 0] 61
theorem alGW (w : World) : Below w.heap.size w (w.alloc zGW) := (Below.refl _ _).alloc (Nat.le_refl _) _
set_option maxRecDepth 100000 in
set_option maxHeartbeats 4000000 in
/-- Behind the test: none. -/
theorem word_no {w : World} {X : Nat} {a : Option Addr} {cap : Nat} {ws : List Wd} {fin : Pl} {r : RsC} (h : Pr w X a cap ws fin r) (hk : Wk ws cap) (k : Nat) (hno : r.2.2 ≠ 0 ∨ r.1 = [] ∨ ∃ x l, r.1 = x :: l ∧ (x.1 ≠ k ∨ rsvB (tkW x).2 = true)) :
    Calls Tryz.prog 111 #[.pointer (some ⟨X, 0, none⟩), .int .i64 (k : Int)] w fun e w' => e = .returned (wdA none) ∧ Pr w' X a cap ws fin (failC 12 (hereR fin r) r) ∧ Fx X w w' := by
  obtain ⟨n, h1, h2, h3, h4⟩ := id h
  have hX := h.lt
  have hR0 := h1.on (alGW w)
  have hB0 : B4 (w.alloc zGW) w.heap.size (.int .i64 0) (.string ⟨#[]⟩) (.int .i64 0) (.int .i64 0) := B4.new w _ _ _ _ _ _ rfl
  have hF := fun w1 (hr : Rr w1 X a cap ws n r.2.2) => pfail_any hr 12
  have hRs := fun s w1 => pReserved_any s w1
  have hcap := hk.c
  have hbad : ∀ w', Rr w' X a cap ws n (if r.2.2 = 0 then 12 else r.2.2) → Pr w' X a cap ws fin (failC 12 (hereR fin r) r) := fun w' hr => Pr.bad hr h2 h3 h4
  have HB : Hid (∀ w', Rr w' X a cap ws n (if r.2.2 = 0 then 12 else r.2.2) → Pr w' X a cap ws fin (failC 12 (hereR fin r) r)) := hbad
  obtain ⟨c0, c1, c2, f1, f2, hL⟩ := id hR0
  obtain ⟨b, hb⟩ : ∃ b, r.2.2 = b := ⟨_, rfl⟩
  rw [hb] at c2 hno
  have i2 : (0 : Int) ≤ (n : Int) := by omega
  have hend : ∀ w1, Fx X (w.alloc zGW) w1 → Rr w1 X a cap ws n (if r.2.2 = 0 then 12 else r.2.2) → B4 w1 w.heap.size (.int .i64 0) (.string ⟨#[]⟩) (.int .i64 0) (.int .i64 0) ∧ Fx X w w1 := fun w1 hf hr => ⟨hB0.fxP hf (by omega), (Fx.of (alGW w) (Nat.le_refl _)).trans hf⟩
  have HEnd : Hid (∀ w1, Fx X (w.alloc zGW) w1 → Rr w1 X a cap ws n (if r.2.2 = 0 then 12 else r.2.2) → B4 w1 w.heap.size (.int .i64 0) (.string ⟨#[]⟩) (.int .i64 0) (.int .i64 0) ∧ Fx X w w1) := hend
  clear hbad hend
  by_cases hz : b = 0
  · subst hz
    rcases hno with q | q | ⟨x, l, q, q2⟩
    · exact absurd rfl q
    · rw [q] at h2
      have hn := drop_nil h2 h3
      have i1 : (n == ws.length) = true := by simpa using hn
      have i3 : ((n : Int) == (ws.length : Int)) = true := by simp [hn]
      clear hL h2 h3 h4 q hn hB0 hRs
      go_enter Tryz.func111, Tryz.ntmps111
      go_wp2
      go_quiet (fail)
      have hr1 := hR0.on (draws _ nq)
      have hfq : Fx X (w.alloc zGW) ((w.alloc zGW).drewN nq) := (Fx.refl _ _).drewN nq
      generalize (w.alloc zGW).drewN nq = w1 at *
      go_upto_region 3 with (first
        | (go_at_call 75; refine (hF _ hr1).mono ?_; rintro e w2 ⟨⟨u, rfl⟩, hr2, hf2⟩))
      obtain ⟨hB2, hF2⟩ := HEnd.out _ (hfq.trans hf2) hr2
      obtain ⟨y0, y1, y2, y3, z0, z1, z2, z3⟩ := id hB2
      go_wp2
      exact bodyPost_ret (at4_res (hB2.put _ _ _ _).atP rfl) rfl ⟨rfl, HB.out _ (hr2.put4 hX _ _ _ _), hF2.put4' (Nat.le_refl _) _ _ _ _⟩
    · rw [q] at h2
      obtain ⟨hn, _, hx⟩ := drop_cons h2
      obtain ⟨g, off, rfl, hgX, d0, d1, d2, d3⟩ := hL n hn
      have i1 : ((n : Int) == (ws.length : Int)) = false := by simp; omega
      have i3 : (n : Int) < (ws.length : Int) := by omega
      rw [hx hn] at d0 d1
      have hd1 : (w.alloc zGW).cell? ⟨g, off + n * 4 + 1, none⟩ = some (.string ⟨(tkW x).2.toArray⟩) := d1
      have hRv := fun w1 => hRs ⟨(tkW x).2.toArray⟩ w1
      have e2 : bl ⟨(tkW x).2.toArray⟩ = (tkW x).2 := rfl
      simp only [e2] at hRv
      obtain ⟨bs, hbs⟩ : ∃ bs, (tkW x).2 = bs := ⟨_, rfl⟩
      obtain ⟨K, hK⟩ : ∃ K, x.1 = K := ⟨_, rfl⟩
      simp only [hbs, hK] at hd1 d0 hRv q2
      clear hL h2 h3 h4 q hB0 hRs d1 d2 d3 hx e2 hbs hK
      by_cases hk1 : K = k
      · have i4 : ((K : Int) != (k : Int)) = false := by simp [hk1]
        have hrs : rsvB bs = true := q2.resolve_left (fun e => e hk1)
        simp only [hrs] at hRv
        have hRq : ∀ n, Calls Tryz.prog 96 #[.string ⟨bs.toArray⟩] ((w.alloc zGW).drewN n) fun e w' => e = .returned (.bool true) ∧ ∃ m, w' = (w.alloc zGW).drewN m := fun n => (hRv _).mono (fun e w' hh => ⟨hh.1, n, hh.2.symm⟩)
        clear q2 hrs hk1 hRv
        go_enter Tryz.func111, Tryz.ntmps111
        go_wp2
        go_quiet (exact hRq _)
        have hr1 := hR0.on (draws _ nq)
        have hfq : Fx X (w.alloc zGW) ((w.alloc zGW).drewN nq) := (Fx.refl _ _).drewN nq
        generalize (w.alloc zGW).drewN nq = w1 at *
        go_upto_region 3 with (first
          | (go_at_call 75; refine (hF _ hr1).mono ?_; rintro e w2 ⟨⟨u, rfl⟩, hr2, hf2⟩))
        obtain ⟨hB2, hF2⟩ := HEnd.out _ (hfq.trans hf2) hr2
        obtain ⟨y0, y1, y2, y3, z0, z1, z2, z3⟩ := id hB2
        go_wp2
        exact bodyPost_ret (at4_res (hB2.put _ _ _ _).atP rfl) rfl ⟨rfl, HB.out _ (hr2.put4 hX _ _ _ _), hF2.put4' (Nat.le_refl _) _ _ _ _⟩
      · have i4 : ((K : Int) != (k : Int)) = true := by simp; omega
        clear q2 hRv
        go_enter Tryz.func111, Tryz.ntmps111
        go_wp2
        go_quiet (fail)
        have hr1 := hR0.on (draws _ nq)
        have hfq : Fx X (w.alloc zGW) ((w.alloc zGW).drewN nq) := (Fx.refl _ _).drewN nq
        generalize (w.alloc zGW).drewN nq = w1 at *
        go_upto_region 3 with (first
          | (go_at_call 75; refine (hF _ hr1).mono ?_; rintro e w2 ⟨⟨u, rfl⟩, hr2, hf2⟩))
        obtain ⟨hB2, hF2⟩ := HEnd.out _ (hfq.trans hf2) hr2
        obtain ⟨y0, y1, y2, y3, z0, z1, z2, z3⟩ := id hB2
        go_wp2
        exact bodyPost_ret (at4_res (hB2.put _ _ _ _).atP rfl) rfl ⟨rfl, HB.out _ (hr2.put4 hX _ _ _ _), hF2.put4' (Nat.le_refl _) _ _ _ _⟩
  · have i1 : (b != 0) = true := by simpa using hz
    clear hL h2 h3 h4 hno hB0 hRs
    go_enter Tryz.func111, Tryz.ntmps111
    go_wp2
    go_quiet (fail)
    have hr1 := hR0.on (draws _ nq)
    have hfq : Fx X (w.alloc zGW) ((w.alloc zGW).drewN nq) := (Fx.refl _ _).drewN nq
    generalize (w.alloc zGW).drewN nq = w1 at *
    go_upto_region 3 with (first
      | (go_at_call 75; refine (hF _ hr1).mono ?_; rintro e w2 ⟨⟨u, rfl⟩, hr2, hf2⟩))
    obtain ⟨hB2, hF2⟩ := HEnd.out _ (hfq.trans hf2) hr2
    obtain ⟨y0, y1, y2, y3, z0, z1, z2, z3⟩ := id hB2
    go_wp2
    exact bodyPost_ret (at4_res (hB2.put _ _ _ _).atP rfl) rfl ⟨rfl, HB.out _ (hr2.put4 hX _ _ _ _), hF2.put4' (Nat.le_refl _) _ _ _ _⟩
set_option maxRecDepth 100000 in
set_option maxHeartbeats 4000000 in
theorem word_yes {w : World} {X : Nat} {a : Option Addr} {cap : Nat} {ws : List Wd} {fin : Pl} {r : RsC} (h : Pr w X a cap ws fin r) (hk : Wk ws cap) {x : Wd} {l : List Wd} (h0 : r.2.2 = 0) (hr : r.1 = x :: l) (hrs : rsvB (tkW x).2 = false) :
    Calls Tryz.prog 111 #[.pointer (some ⟨X, 0, none⟩), .int .i64 (x.1 : Int)] w fun e w' => e = .returned (wdA (some x)) ∧ Pr w' X a cap ws fin (l, r.2) ∧ Fx X w w' := by
  obtain ⟨n, h1, h2, h3, h4⟩ := id h
  have hX := h.lt
  have hR0 := h1.on (alGW w)
  have hB0 : B4 (w.alloc zGW) w.heap.size (.int .i64 0) (.string ⟨#[]⟩) (.int .i64 0) (.int .i64 0) := B4.new w _ _ _ _ _ _ rfl
  have hcap := hk.c
  have hlen := hk.l
  rw [hr] at h2
  have HS : Hid (∀ w', Rr w' X a cap ws (n + 1) r.2.2 → Pr w' X a cap ws fin (l, r.2)) := fun w' q => Pr.step q h2 h0
  rw [h0] at h1 hR0 HS
  obtain ⟨hn, _, hx⟩ := drop_cons h2
  obtain ⟨c0, c1, c2, f1, f2, hL⟩ := id hR0
  obtain ⟨g, off, rfl, hgX, d0, d1, d2, d3⟩ := hL n hn
  have i1 : ((n : Int) == (ws.length : Int)) = false := by simp; omega
  have i2 : (0 : Int) ≤ (n : Int) := by omega
  have i3 : (n : Int) < (ws.length : Int) := by omega
  have i5 : IntKind.i64.wrap ((n : Int) + 1) = (n : Int) + 1 := by rw [IntKind.wrap_i64]; omega
  have i6 : IntKind.i64.wrap ((n : Int) + 1 - 1) = (n : Int) := by rw [IntKind.wrap_i64]; omega
  rw [hx hn] at d0 d1 d2 d3
  have hRv := fun w1 => pReserved_any (txt x.2.1) w1
  have e2 : bl (txt x.2.1) = (tkW x).2 := rfl
  rw [e2, hrs] at hRv
  have hRq : ∀ n, Calls Tryz.prog 96 #[.string (txt x.2.1)] ((w.alloc zGW).drewN n) fun e w' => e = .returned (.bool false) ∧ ∃ m, w' = (w.alloc zGW).drewN m := fun n => (hRv _).mono (fun e w' hh => ⟨hh.1, n, hh.2.symm⟩)
  unfold wdA
  obtain ⟨K, seg, ln, co⟩ := x
  simp only at d0 d1 d2 d3 hRq ⊢
  obtain ⟨bs, hbs⟩ : ∃ bs, txt seg = bs := ⟨_, rfl⟩
  rw [hbs] at d1 hRq ⊢
  have hfr : ∀ m, Rr (((w.alloc zGW).drewN m).setCell ⟨X, 1, none⟩ (.int .i64 ((n + 1 : Nat) : Int))) X (some ⟨g, off, none⟩) cap ws (n + 1) 0 ∧ B4 (((w.alloc zGW).drewN m).setCell ⟨X, 1, none⟩ (.int .i64 ((n + 1 : Nat) : Int))) w.heap.size (.int .i64 0) (.string ⟨#[]⟩) (.int .i64 0) (.int .i64 0) ∧ Fx X w (((w.alloc zGW).drewN m).setCell ⟨X, 1, none⟩ (.int .i64 ((n + 1 : Nat) : Int))) := fun m =>
    ⟨(hR0.on (draws _ m)).set1 (n + 1), (hB0.keep (draws _ m)).far (by omega) _, (((Fx.of (alGW w) (Nat.le_refl _)).drewN m).setX _)⟩
  have HF : Hid (∀ m, Rr (((w.alloc zGW).drewN m).setCell ⟨X, 1, none⟩ (.int .i64 ((n + 1 : Nat) : Int))) X (some ⟨g, off, none⟩) cap ws (n + 1) 0 ∧ B4 (((w.alloc zGW).drewN m).setCell ⟨X, 1, none⟩ (.int .i64 ((n + 1 : Nat) : Int))) w.heap.size (.int .i64 0) (.string ⟨#[]⟩) (.int .i64 0) (.int .i64 0) ∧ Fx X w (((w.alloc zGW).drewN m).setCell ⟨X, 1, none⟩ (.int .i64 ((n + 1 : Nat) : Int)))) := hfr
  have HX : Hid (∀ hn : n < ws.length, ws[n] = (K, seg, ln, co)) := hx
  clear hfr hL h2 h3 h4 hB0 hRv hrs e2 h0 hx hr
  go_enter Tryz.func111, Tryz.ntmps111
  go_wp2
  go_quiet (exact hRq _)
  obtain ⟨hR2, hB2, hF2⟩ := HF.out nq
  have hr1 := hR0.on (draws _ nq)
  clear c0 c1 c2 f1 f2 d0 d1 d2 d3
  obtain ⟨c0, c1, c2, f1, f2, hL⟩ := id hr1
  clear hL
  generalize (w.alloc zGW).drewN nq = w1 at *
  go_upto_region 5 with fail
  obtain ⟨y0, y1, y2, y3, z0, z1, z2, z3⟩ := id hB2
  clear c0 c1 c2 f1 f2 hr1
  obtain ⟨c0, c1, c2, f1, f2, hL⟩ := id hR2
  obtain ⟨g', off', hgg, hgX', d0, d1, d2, d3⟩ := hL n hn
  simp only [Option.some.injEq, Addr.mk.injEq, and_true] at hgg
  obtain ⟨rfl, rfl⟩ := hgg
  rw [HX.out hn] at d0 d1 d2 d3
  simp only [hbs] at d0 d1 d2 d3
  have i7 : (((n + 1 : Nat) : Int)) = (n : Int) + 1 := by omega
  rw [i7] at c1 y0 y1 y2 y3 z0 z1 z2 z3 hB2 hF2 hR2 c0 c2 f1 f2 d0 d1 d2 d3
  clear hL
  generalize w1.setCell ⟨X, 1, none⟩ (.int .i64 ((n : Int) + 1)) = w2 at *
  go_region
  go_wp2
  exact bodyPost_ret (at4_res (hB2.put _ _ _ _).atP rfl) rfl ⟨rfl, HS.out _ ((hR2.put4 hX _ _ _ _).on ((Below.refl _ _).drew)), (hF2.put4' (Nat.le_refl _) _ _ _ _).drew⟩
theorem word_any {w : World} {X : Nat} {a : Option Addr} {cap : Nat} {ws : List Wd} {fin : Pl} {r : RsC} (h : Pr w X a cap ws fin r) (hk : Wk ws cap) (k : Nat) :
    Calls Tryz.prog 111 #[.pointer (some ⟨X, 0, none⟩), .int .i64 (k : Int)] w fun e w' => e = .returned (wdA (wordR k fin r).1) ∧ Pr w' X a cap ws fin (wordR k fin r).2 ∧ Fx X w w' := by
  unfold wordR
  cases hr : r.1 with
  | nil => exact word_no h hk k (.inr (.inl hr))
  | cons x l =>
    simp only
    by_cases hc : r.2.2 = 0 ∧ x.1 = k ∧ rsvB (tkW x).2 = false
    · rw [if_pos hc]
      obtain ⟨h0, rfl, hrs⟩ := hc
      exact word_yes h hk h0 hr hrs
    · rw [if_neg hc]
      refine word_no h hk k ?_
      by_cases h0 : r.2.2 = 0
      · refine .inr (.inr ⟨x, l, hr, ?_⟩)
        by_cases hk1 : x.1 = k
        · refine .inr ?_
          cases hb : rsvB (tkW x).2 with
          | true => rfl
          | false => exact absurd ⟨h0, hk1, hb⟩ hc
        · exact .inl hk1
      · exact .inl h0
end Go.Proofs.YtccmmkhcacglhaaGreatDoor

/- What the program's name, number and expression do. -/
namespace Go.Proofs.YtccmmkhcacglhaaGreatDoor
open Go.RowKit Go.Lib
set_option linter.unusedSimpArgs false
set_option linter.unusedVariables false
attribute [local go_sem ↓] Go.wp_at_zero Go.wp_at_succ

theorem Pr.word {w : World} {X : Nat} {a : Option Addr} {cap : Nat} {ws : List Wd} {fin : Pl} {r : RsC} (h : Pr w X a cap ws fin r) (hk : Wk ws cap) {x : Wd} {l : List Wd} (hr : r.1 = x :: l) : OneW x.1 x.2.1 := by
  obtain ⟨n, _, h2, _⟩ := h
  rw [hr] at h2
  obtain ⟨hn, _, hx⟩ := drop_cons h2
  rw [← hx hn]
  exact hk.o _ (List.getElem_mem hn)
theorem name_word {w : World} {X : Nat} {a : Option Addr} {cap : Nat} {ws : List Wd} {fin : Pl} {r : RsC} (h : Pr w X a cap ws fin r) (hk : Wk ws cap) : (wordR 1 fin r).2 = (nameR fin r).2 ∧ ∃ k, wdA (wordR 1 fin r).1 = .agg #[.int .i64 k, sV (nameR fin r).1.1, .int .i64 (nameR fin r).1.2.1, .int .i64 (nameR fin r).1.2.2] := by
  have ho := fun x l => h.word hk (x := x) (l := l)
  unfold wordR nameR
  cases hr : r.1 with
  | nil => exact ⟨rfl, _, rfl⟩
  | cons x l =>
    have h1 := kind_name (ho x l hr)
    have h2 : plainB (tkW x).2 = true ↔ x.1 = 1 ∧ rsvB (tkW x).2 = false := by
      unfold plainB
      rw [Bool.and_eq_true, h1]
      exact and_congr Iff.rfl (by cases rsvB (tkW x).2 <;> simp)
    simp only
    by_cases hc : r.2.2 = 0 ∧ x.1 = 1 ∧ rsvB (tkW x).2 = false
    · rw [if_pos hc, if_pos ⟨hc.1, h2.2 hc.2⟩]
      exact ⟨rfl, _, rfl⟩
    · rw [if_neg hc, if_neg (fun e => hc ⟨e.1, h2.1 e.2⟩)]
      exact ⟨rfl, _, rfl⟩
theorem num_word {w : World} {X : Nat} {a : Option Addr} {cap : Nat} {ws : List Wd} {fin : Pl} {r : RsC} (h : Pr w X a cap ws fin r) (hk : Wk ws cap) : (wordR 2 fin r).2 = (numR fin r).2 ∧ ∃ k s p q, wdA (wordR 2 fin r).1 = .agg #[.int .i64 k, .string s, .int .i64 p, .int .i64 q] ∧ ((s = ⟨#[]⟩ ∧ (numR fin r).1 = 0) ∨ (numB (bl s) = true ∧ (numR fin r).1 = valB 0 (bl s))) := by
  have ho := fun x l => h.word hk (x := x) (l := l)
  unfold wordR numR
  cases hr : r.1 with
  | nil => exact ⟨rfl, _, _, _, _, rfl, .inl ⟨rfl, rfl⟩⟩
  | cons x l =>
    have h1 := (ho x l hr).kind
    simp only
    by_cases hc : r.2.2 = 0 ∧ x.1 = 2
    · have hn : numB (tkW x).2 = true := by
        rcases h1 with ⟨k, _⟩ | ⟨_, n⟩ | ⟨k, _⟩
        · omega
        · exact n
        · omega
      rw [if_pos hc, if_pos ⟨hc.1, hc.2, rsv_num hn⟩]
      exact ⟨rfl, _, _, _, _, rfl, .inr ⟨hn, rfl⟩⟩
    · rw [if_neg hc, if_neg (fun e => hc ⟨e.1, e.2.1⟩)]
      exact ⟨rfl, _, _, _, _, rfl, .inl ⟨rfl, rfl⟩⟩
theorem at_blk {w w' : World} {N : Nat} {a b : Value} (h : At w N a b) (hb : w'.heap[N]? = w.heap[N]?) : At w' N a b :=
  ⟨keep_cell (p := ⟨N, 0, none⟩) hb h.1, keep_cell (p := ⟨N, 1, none⟩) hb h.2.1, (frozen_of_block hb).trans h.2.2.1, (frozen_of_block hb).trans h.2.2.2⟩
abbrev zP : Obj := .cells #[.int .i64 0, .int .i64 0] 24
theorem alP (w : World) : Below w.heap.size w (w.alloc zP) := (Below.refl _ _).alloc (Nat.le_refl _) _
theorem name_res {w4 : World} {R : Nat} {a b s : Value} {tmps : Array Value} (h0 : w4.cell? ⟨R, 0, none⟩ = some a) (h1 : w4.cell? ⟨R, 1, none⟩ = some b) (ht : tmps.getD 3 undef = .pointer (some ⟨R, 0, none⟩)) (h2 : tmps.getD 2 undef = s) : (results Tryz.f69 tmps).run Tryz.prog w4 = .ok (.tuple #[s, .agg #[a, b]]) w4 := by
  have ht' : tmps[3]?.getD undef = .pointer (some ⟨R, 0, none⟩) := by simpa using ht
  have h2' : tmps[2]?.getD undef = s := by simpa using h2
  simp [results, Tryz.results69, go_sem, ht', h2', h0, h1]
set_option maxRecDepth 100000 in
set_option maxHeartbeats 4000000 in
theorem pname_any {w : World} {X : Nat} {a : Option Addr} {cap : Nat} {ws : List Wd} {fin : Pl} {r : RsC} (h : Pr w X a cap ws fin r) (hk : Wk ws cap) :
    Calls Tryz.prog 69 #[.pointer (some ⟨X, 0, none⟩)] w fun e w' => e = .returned (.tuple #[sV (nameR fin r).1.1, .agg #[.int .i64 (nameR fin r).1.2.1, .int .i64 (nameR fin r).1.2.2]]) ∧ Pr w' X a cap ws fin (nameR fin r).2 ∧ Fx X w w' := by
  have hX := h.lt
  have hW := word_any (h.on (alP w)) hk 1
  obtain ⟨e1, k, e2⟩ := name_word h hk
  rw [e1, e2] at hW
  obtain ⟨⟨⟨nm, ln, co⟩, r2⟩, hR⟩ : ∃ x, nameR fin r = x := ⟨_, rfl⟩
  rw [hR] at hW ⊢
  simp only at hW ⊢
  have hA : At (w.alloc zP) w.heap.size (.int .i64 0) (.int .i64 0) := At.new w _ _ _ _ rfl
  unfold sV at hW ⊢
  clear e1 e2 hR
  go_enter Tryz.func69, Tryz.ntmps69
  go_upto_region 2 with (first
    | (go_at_call 111; refine hW.mono ?_; rintro e w1 ⟨rfl, hp, hf⟩))
  have hA1 : At w1 w.heap.size (.int .i64 0) (.int .i64 0) := at_blk hA (hf.block w.heap.size (by simp) (fun e => by have : w.heap.size = X := Option.some.inj e; omega))
  have hal : Below w1.heap.size w1 (w1.alloc (.cells #[.int .i64 k, .string ⟨nm.toArray⟩, .int .i64 ln, .int .i64 co] 61)) := (Below.refl _ _).alloc (Nat.le_refl _) _
  have hA2 := hA1.keep hal
  have hB2 : B4 (w1.alloc (.cells #[.int .i64 k, .string ⟨nm.toArray⟩, .int .i64 ln, .int .i64 co] 61)) w1.heap.size (.int .i64 k) (.string ⟨nm.toArray⟩) (.int .i64 ln) (.int .i64 co) := B4.new _ _ _ _ _ _ _ rfl
  have hp2 := hp.on hal
  have hF2 : Fx X w (w1.alloc (.cells #[.int .i64 k, .string ⟨nm.toArray⟩, .int .i64 ln, .int .i64 co] 61)) := ((Fx.of (alP w) (Nat.le_refl _)).trans hf).alloc _
  obtain ⟨N, hN⟩ : ∃ N, w1.heap.size = N := ⟨_, rfl⟩
  rw [hN] at hB2 ⊢
  obtain ⟨y0, y1, y2, y3, z0, z1, z2, z3⟩ := id hB2
  obtain ⟨p0, p1, p2, p3⟩ := id hA2
  clear hA hA1 hf hp hal hW hN hB2
  generalize w1.alloc (.cells #[.int .i64 k, .string ⟨nm.toArray⟩, .int .i64 ln, .int .i64 co] 61) = w2 at *
  go_region
  go_wp2
  obtain ⟨q0, q1, _, _⟩ := (hA2.set0 (.int .i64 ln)).set1 (.int .i64 co)
  exact bodyPost_ret (name_res q0 q1 rfl rfl) rfl ⟨rfl, ((hp2.far hX _).far hX _).on ((Below.refl _ _).drew), ((hF2.setN (Nat.le_refl _) _).setN (Nat.le_refl _) _).drew⟩
/-- What strconv.ErrSyntax holds. -/
def Ey (w : World) (X : Nat) : Prop := (∃ ev, w.cell? ⟨renA.g 15, 0, none⟩ = some ev ∧ (ev = .nilIface ∨ ∃ te pe, ev = .iface te pe)) ∧ renA.g 15 < X
theorem Ey.fx {w w' : World} {X : Nat} (h : Ey w X) (hf : Fx X w w') : Ey w' X := by
  obtain ⟨⟨ev, h1, h2⟩, h3⟩ := h
  have hlt : renA.g 15 < w.heap.size := World.block_lt_of_cell? w _ h1
  exact ⟨⟨ev, keep_cell (p := ⟨renA.g 15, 0, none⟩) (hf.block _ hlt (fun e => by have : renA.g 15 = X := Option.some.inj e; omega)) h1, h2⟩, h3⟩
theorem Ey.on {w w' : World} {X : Nat} (h : Ey w X) (hb : Below w.heap.size w w') : Ey w' X := h.fx (Fx.of hb (Nat.le_refl _))
theorem Ey.far {w : World} {X Y i : Nat} (h : Ey w X) (hY : X < Y) (u : Value) : Ey (w.setCell ⟨Y, i, none⟩ u) X := by
  obtain ⟨⟨ev, h1, h2⟩, h3⟩ := h
  exact ⟨⟨ev, cell_far4 (by omega) h1, h2⟩, h3⟩
theorem atoi_any {w : World} {X : Nat} (hE : Ey w X) (s : ByteArray) (n : Int) (h : (s = ⟨#[]⟩ ∧ n = 0) ∨ (numB (bl s) = true ∧ n = valB 0 (bl s))) : Calls Tryz.prog 112 #[.string s] w fun e w' => (∃ u, e = .returned (.tuple #[.int .i64 n, u])) ∧ Below w.heap.size w w' := by
  rcases h with ⟨rfl, rfl⟩ | ⟨hs, rfl⟩
  · obtain ⟨⟨ev, h1, h2⟩, _⟩ := hE
    refine (Any.strconv_Atoi_syntax laysA ⟨#[]⟩ (by decide) rfl ev w h1 h2).mono ?_
    rintro e w' ⟨N, rfl, _, _, hb⟩
    exact ⟨⟨_, rfl⟩, hb⟩
  · have hl := (num_len hs).1
    refine (Any.strconv_Atoi_ok laysA s (by rw [← bl_length]; omega) (valB 0 (bl s)) (atoi_num hs) w).mono ?_
    rintro e w' ⟨rfl, hw⟩
    refine ⟨⟨_, rfl⟩, ?_⟩
    rcases hw with rfl | ⟨t, rfl⟩
    · exact Below.refl _ _
    · exact bytesWorld_below _ _ _
set_option maxRecDepth 100000 in
set_option maxHeartbeats 4000000 in
theorem pnum_any {w : World} {X : Nat} {a : Option Addr} {cap : Nat} {ws : List Wd} {fin : Pl} {r : RsC} (h : Pr w X a cap ws fin r) (hk : Wk ws cap) (hE : Ey w X) :
    Calls Tryz.prog 70 #[.pointer (some ⟨X, 0, none⟩)] w fun e w' => e = .returned (.int .i64 (numR fin r).1) ∧ Pr w' X a cap ws fin (numR fin r).2 ∧ Fx X w w' := by
  have hW := word_any h hk 2
  obtain ⟨e1, k, s, p, q, e2, e3⟩ := num_word h hk
  rw [e1, e2] at hW
  have hA := fun w1 (hE1 : Ey w1 X) => atoi_any hE1 s (numR fin r).1 e3
  obtain ⟨⟨n, r2⟩, hR⟩ : ∃ x, numR fin r = x := ⟨_, rfl⟩
  rw [hR] at hW ⊢
  simp only [hR] at hA
  simp only at hW ⊢
  have hfl : ∀ w1, (Instr.field 61 (.agg #[.int .i64 k, .string s, .int .i64 p, .int .i64 q]) 1).run Tryz.prog w1 = .ok (.string s) w1 := fun w1 => by kernel_rfl
  clear e1 e2 e3 hR
  go_enter Tryz.func70, Tryz.ntmps70
  go_wp2_with (first
    | (go_at_call 111; refine hW.mono ?_; rintro e w1 ⟨rfl, hp, hf⟩; have hE1 := hE.fx hf)
    | (go_at_call 112; refine (hA _ hE1).mono ?_; rintro e w2 ⟨⟨u, rfl⟩, hb⟩))
  go_ret
  exact ⟨rfl, hp.on hb, hf.trans (Fx.of hb (Nat.le_refl _))⟩
end Go.Proofs.YtccmmkhcacglhaaGreatDoor

/- What the program's expression and set do. -/
namespace Go.Proofs.YtccmmkhcacglhaaGreatDoor
open Go.RowKit Go.Lib
set_option linter.unusedSimpArgs false
set_option linter.unusedVariables false
attribute [local go_sem ↓] Go.wp_at_zero Go.wp_at_succ

/-- The words from n on, as a slice. -/
theorem slice_from {w : World} {X n : Nat} {a : Option Addr} {cap : Nat} {ws : List Wd} (hL : RdL w X a ws) (hn : n ≤ ws.length) (hc : ws.length ≤ cap) : ∃ a1, (∀ W, (Instr.slice 53 (.slice a ws.length cap) (some (.int .i64 (n : Int))) none none).run Tryz.prog W = .ok (.slice a1 (ws.drop n).length (cap - n)) W) ∧ RdL w X a1 (ws.drop n) := by
  refine ⟨(if cap = n then a else a.map (·.add (n * 4))), fun W => ?_, fun i hi => ?_⟩
  · have h := run_slice_l (P := Tryz.prog) (w := W) (t := 53) (a := a) (len := ws.length) (cap := cap) (ht := by kernel_rfl) .i64 (n : Int) (by omega) (by omega)
    have e : (sizeOf (Tryz.prog.elem 53)).run Tryz.prog W = .ok 4 W := by kernel_rfl
    rw [h, e]
    simp [Result.andThen, sliced]
  · rw [List.length_drop] at hi
    obtain ⟨g, off, rfl, hg, c0, c1, c2, c3⟩ := hL (n + i) (by omega)
    have e : (ws.drop n)[i]'(by rw [List.length_drop]; exact hi) = ws[n + i] := by rw [List.getElem_drop]
    rw [if_neg (by omega), e]
    refine ⟨g, off + n * 4, by simp [Addr.add], hg, ?_, ?_, ?_, ?_⟩
    · rw [show off + n * 4 + i * 4 = off + (n + i) * 4 by omega]; exact c0
    · rw [show off + n * 4 + i * 4 + 1 = off + (n + i) * 4 + 1 by omega]; exact c1
    · rw [show off + n * 4 + i * 4 + 2 = off + (n + i) * 4 + 2 by omega]; exact c2
    · rw [show off + n * 4 + i * 4 + 3 = off + (n + i) * 4 + 3 by omega]; exact c3
set_option maxRecDepth 100000 in
set_option maxHeartbeats 4000000 in
theorem expr_any {w : World} {X : Nat} {a : Option Addr} {cap : Nat} {ws : List Wd} {fin : Pl} {r : RsC} (h : Pr w X a cap ws fin r) (hk : Wk ws cap) :
    Calls Tryz.prog 147 #[.pointer (some ⟨X, 0, none⟩)] w fun e w' => e = .returned (exX (exprR fin r).1) ∧ Pr w' X a cap ws fin (exprR fin r).2 ∧ Fx X w w' := by
  obtain ⟨n, h1, h2, h3, h4⟩ := id h
  have hX := h.lt
  have hlen := hk.l
  obtain ⟨b, hb⟩ : ∃ b, r.2.2 = b := ⟨_, rfl⟩
  obtain ⟨c0, c1, c2, f1, f2, hL⟩ := id h1
  rw [hb] at c2
  obtain ⟨RS, hRS⟩ : ∃ RS, exprR fin r = RS := ⟨_, rfl⟩
  rw [hRS]
  unfold exprR at hRS
  by_cases hz : b ≠ 0
  · rw [if_pos (by rw [hb]; exact hz)] at hRS
    have i1 : (b != 0) = true := by simpa using hz
    subst hRS
    clear hL h1 h2 h3 h4 hb hz
    go_enter Tryz.func147, Tryz.ntmps147
    go_wp2
    go_ret
    exact ⟨rfl, h, Fx.refl X w⟩
  · rw [if_neg (by rw [hb]; exact hz)] at hRS
    have hz0 : b = 0 := Decidable.not_not.1 hz
    subst hz0
    obtain ⟨a1, hsl, hL1⟩ := slice_from hL h3 hk.c
    have hl2 : (ws.drop n).length ≤ 3000 := by rw [List.length_drop]; omega
    have h1w : ∀ x ∈ ws.drop n, OneW x.1 x.2.1 := fun x hx => hk.o x (List.mem_of_mem_drop hx)
    have hmx := hk.m
    have hTk : ∀ w1, Fx X w w1 → Calls Tryz.prog 175 #[.slice a1 (ws.drop n).length (cap - n)] w1 _ := fun w1 hf => pTake_rd (by rw [List.length_drop]; have := hk.c; omega) (by omega) (fun i hi => by
      obtain ⟨g, off, q1, q2, q3⟩ := hL1.fx hX hf i hi
      exact ⟨g, off, q1, Nat.lt_trans q2 (Nat.lt_of_lt_of_le hX hf.size), q3⟩) h1w hl2
    have hle := take_le h1w
    rw [h2] at hRS
    rw [List.length_drop] at hle
    obtain ⟨⟨x, m, f⟩, hT⟩ : ∃ t, takeC ((ws.drop n).map tkW) = t := ⟨_, rfl⟩
    have hkd := take_kinds (l := (ws.drop n).map tkW)
    rw [hT] at hle hkd hRS
    simp only [hT, List.length_drop] at hTk
    simp only [List.length_drop] at hsl
    simp only at hle hkd hTk hRS
    have i5 : IntKind.i64.wrap ((n : Int) + (m : Int)) = (n : Int) + (m : Int) := by rw [IntKind.wrap_i64]; omega
    have i7 : ((n + m : Nat) : Int) = (n : Int) + (m : Int) := by omega
    obtain ⟨xv, hxv⟩ : ∃ xv, exX x = xv := ⟨_, rfl⟩
    simp only [hxv] at hTk
    have hF := fun w1 (hr : Rr w1 X a cap ws (n + m) 0) => pfail_any hr f
    rw [hb] at h1
    have HZ : Hid ((f = 0 → RS = (x, (ws.drop (n + m), r.2))) ∧ (f ≠ 0 → RS.1 = x ∧ ∀ w4, Rr w4 X a cap ws (n + m) (if (0 : Int) = 0 then f else 0) → Pr w4 X a cap ws fin RS.2) ∧ exX x = xv ∧ ∀ w4, Rr w4 X a cap ws (n + m) 0 → Pr w4 X a cap ws fin (ws.drop (n + m), r.2)) := by
      refine ⟨fun q => ?_, fun q => ?_, hxv, fun w4 hr4 => ?_⟩
      · rw [if_pos q, List.drop_drop] at hRS; exact hRS.symm
      · have hP : ∀ w4, Rr w4 X a cap ws (n + m) (if (0 : Int) = 0 then f else 0) → Pr w4 X a cap ws fin (failC f (hereR fin (ws.drop (n + m), r.2)) (ws.drop (n + m), r.2)) := fun w4 hr4 => Pr.bad (r := (ws.drop (n + m), r.2)) (by show Rr _ X a cap ws (n + m) (if r.2.2 = 0 then f else r.2.2); rw [hb]; exact hr4) rfl (by omega) (fun e => absurd hb e)
        rw [if_neg q] at hRS
        rcases hkd with q0 | ⟨q1, q2, q3⟩ | ⟨q1, q2⟩
        · exact absurd q0 q
        · rw [if_pos q3] at hRS
          subst hRS
          refine ⟨rfl, fun w4 hr4 => ?_⟩
          have := hP w4 hr4
          subst q2
          rw [Nat.add_zero, ← h2, q3] at this
          exact this
        · rw [if_neg (by omega), List.drop_drop] at hRS
          subst hRS
          exact ⟨rfl, hP⟩
      · exact ⟨n + m, by show Rr _ X a cap ws (n + m) r.2.2; rw [hb]; exact hr4, rfl, by omega, fun e => absurd hb e⟩
    clear hT hkd h2 h4 hL hL1 hxv hb hz h1w hRS
    by_cases hf0 : f = 0
    · have i1 : (f != 0) = false := by simp [hf0]
      go_enter Tryz.func147, Tryz.ntmps147
      go_upto_region 3 with fail
      go_region_held_law (fun W => W.cell? ⟨X, 0, none⟩ = some (.slice a ws.length cap) ∧ W.cell? ⟨X, 1, none⟩ = some (.int .i64 (n : Int)))
        (refine ⟨?_, ?_⟩ <;> assumption)
        (first
          | (go_at_call 175; (with_reducible refine (hTk _ ((Fx.refl X w).drew)).mono ?_); rintro e w2 ⟨rfl, b2⟩; have hR2 := h1.on (((Below.refl _ w).drew).trans b2); have hF2 := (Fx.refl X w).drew.trans (Fx.of b2 (Nat.le_refl _)); have k0 := hR2.c0; have k1 := hR2.c1))
      have g1 := hR2.f1
      have hR3 := hR2.set1 (n + m)
      have hF3 := hF2.setX (i := 1) (.int .i64 ((n + m : Nat) : Int))
      rw [i7] at hR3 hF3
      clear c0 c1 c2 f1 f2
      go_wp2
      go_ret
      obtain ⟨z1, _, z3, z4⟩ := HZ.out
      rw [z1 hf0]
      exact ⟨by rw [z3]; rfl, z4 _ hR3, hF3⟩
    · have i1 : (f != 0) = true := by simp [hf0]
      go_enter Tryz.func147, Tryz.ntmps147
      go_upto_region 3 with fail
      go_region_held_law (fun W => W.cell? ⟨X, 0, none⟩ = some (.slice a ws.length cap) ∧ W.cell? ⟨X, 1, none⟩ = some (.int .i64 (n : Int)))
        (refine ⟨?_, ?_⟩ <;> assumption)
        (first
          | (go_at_call 175; (with_reducible refine (hTk _ ((Fx.refl X w).drew)).mono ?_); rintro e w2 ⟨rfl, b2⟩; have hR2 := h1.on (((Below.refl _ w).drew).trans b2); have hF2 := (Fx.refl X w).drew.trans (Fx.of b2 (Nat.le_refl _)); have k0 := hR2.c0; have k1 := hR2.c1))
      have g1 := hR2.f1
      have hR3 := hR2.set1 (n + m)
      have hF3 := hF2.setX (i := 1) (.int .i64 ((n + m : Nat) : Int))
      rw [i7] at hR3 hF3
      clear c0 c1 c2 f1 f2
      go_upto_region 6 with fail
      generalize w2.setCell ⟨X, 1, none⟩ (.int .i64 ((n : Int) + (m : Int))) = W3 at *
      go_wp2_with (first
        | (go_at_call 75; refine (hF _ hR3).mono ?_; rintro e w4 ⟨⟨u, rfl⟩, hr4, hf4⟩))
      go_ret
      obtain ⟨_, z2, z3, _⟩ := HZ.out
      obtain ⟨z5, z6⟩ := z2 hf0
      exact ⟨by rw [z5, z3]; rfl, z6 _ hr4, hF3.trans hf4⟩
end Go.Proofs.YtccmmkhcacglhaaGreatDoor
