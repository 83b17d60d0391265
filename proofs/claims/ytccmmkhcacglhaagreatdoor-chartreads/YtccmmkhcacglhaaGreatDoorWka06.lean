import Derived.Test.YtccmmkhcacglhaaGreatDoorWka05
import Derived.Test.YtccmmkhcacglhaaGreatDoorWkc10

/- Charts in the document's memory; what its on does. -/
namespace Go.Proofs.YtccmmkhcacglhaaGreatDoor
open Go.RowKit Go.Lib
set_option linter.unusedSimpArgs false
set_option linter.unusedVariables false
attribute [local go_sem ↓] Go.wp_at_zero Go.wp_at_succ

theorem wpList_pushB {α : Type} {P : Program} (w : World) {ops : Array Oper} {rest : List Oper} {o : Oper} {a : Act} {Q : Exit → Act → World → Prop} (hgd : o.guard = none) (s x : Operand) (t : TypeId)
    (ho : o.op = .call { callee := .builtin .append, args := #[s, x], argTypes := #[t, t] })
    (base : Nat) (bad : Nat → Prop) (e : TypeId) (i : TypeInfo) (z : Value) (k bytes : Nat) (ht : P.underlying t = some (.slice e)) (hi : P.info? e = some i) (hz : i.zero = some z)
    (hsize : i.size = k) (hby : i.bytes = bytes) (hzs : z.cells.size = k) {R : (Nat → Prop) → World → α → List Value → Prop} (hR : Kp R)
    (v : Value) (l : List α) (p : α) (cs : List Value) (lo : Nat) (hs : a.eval s = v) (hx : a.eval x = .slice (some ⟨w.heap.size, 0, none⟩) 1 1) (hk : cs.length = k) (h1 : ∀ u ∈ cs, u.oneCell' = true)
    (hown : OwnB w base bad e k R v l) (hp : R (fun b => lo ≤ b) w p cs) (hlo : base ≤ lo) (hv : ∀ x, v.ownBlock = some x → x < lo) (hbad : ∀ b, bad b → b < lo ∧ b < w.heap.size) (hroom : (l.length + 1 + (l.length + 1) / 4 + 192) * bytes ≤ 281474976710656)
    (h63 : l.length + 1 ≤ maxLen) (hbase : base ≤ w.heap.size)
    (h : ∀ v' w', OwnB w' base bad e k R v' (l ++ [p]) → (w.alloc (.cells cs.toArray e)).grownBy w' v.ownBlock → Below base w w' → (v'.ownBlock = v.ownBlock ∨ v'.ownBlock = some (w.alloc (.cells cs.toArray e)).heap.size) → wpList P ops Q rest (a.put o.dst v') w') :
    wpList P ops Q (o :: rest) a (w.alloc (.cells cs.toArray e)) := by
  have hal : Below w.heap.size w (w.alloc (.cells cs.toArray e)) := (Below.refl _ _).alloc (Nat.le_refl _) _
  obtain ⟨qs, ho1, hl1, hr1, hg1⟩ := hown.on hR hal
  refine wpList_append_at _ hgd s x t t ho base e i z k bytes ht hi hz hsize hby hzs v l.length qs.flatten hs ho1 _ 1 cs hx (src_row ht w cs hk h1) 1 (.inr hroom) (Nat.le_refl _) h63 (Nat.le_trans hbase hal.size) ?_
  intro v' w' hown' hg hat
  refine h v' w' (OwnB.snoc hR hk rfl ho1 hl1 hr1 hown' hg hat (hR hp (fun b hb hlt => ⟨hb, hal.block b hlt⟩)) hlo hv (fun b q => ⟨(hbad b q).1, Nat.lt_of_lt_of_le (hbad b q).2 hal.size⟩) hg1) hg ?_ hat
  exact ((Below.refl base w).alloc hbase _).grown hg (Nat.le_trans hbase hal.size) (fun k hk => (World.ownsRow.lt ho1 k hk).1)
def sD (l : List UInt8) : Value := .string ⟨l.toArray⟩
def rSetD (ok : Nat → Prop) (w : World) (x : List UInt8 × Sx) (cs : List Value) : Prop := ∃ c0 c1 c2 c3, cs = [sD x.1, c0, c1, c2, c3] ∧ RdX ok w x.2 (.agg #[c0, c1, c2, c3])
theorem kp_setD : Kp rSetD := fun _ _ _ _ _ _ ⟨c0, c1, c2, c3, h, hr⟩ hk => ⟨c0, c1, c2, c3, h, hr.keep hk⟩
def rOnD (ok : Nat → Prop) (w : World) (o : OnC) (cs : List Value) : Prop := ∃ c0 c1 c2 c3 sl, cs = [sD o.1, .bool o.2.1.1, c0, c1, c2, c3, sD o.2.2.1, sl, .int .i64 o.2.2.2.2.1, .int .i64 o.2.2.2.2.2] ∧ RdX ok w o.2.1.2 (.agg #[c0, c1, c2, c3]) ∧ RdK ok w 5 (rSetD ok w) o.2.2.2.1 sl
theorem kp_onD : Kp rOnD := fun _ _ _ _ _ _ ⟨c0, c1, c2, c3, sl, h, hr, hs⟩ hk => ⟨c0, c1, c2, c3, sl, h, hr.keep hk, hs.stay kp_setD hk⟩
def hdD (h : HdC) (so si : Value) : List Value := [sD h.1.1, .int .i64 h.1.2.1, .int .i64 h.1.2.2, .bool h.2.1.1, .bool h.2.1.2, sD h.2.2.1.1, sD h.2.2.1.2, .int .i64 h.2.2.2.1.1, .int .i64 h.2.2.2.1.2, so, si]
def rStD : (d : Nat) → (Nat → Prop) → World → St d → List Value → Prop
  | 0, _, _, t, _ => Empty.elim t
  | d + 1, ok, w, t, cs => ∃ so si, cs = hdD t.1 so si ∧ RdK ok w 10 (rOnD ok w) t.1.2.2.2.2 so ∧ RdK ok w 11 (rStD d ok w) t.2 si
theorem kp_stD : ∀ d, Kp (rStD d)
  | 0 => fun _ _ _ _ x _ _ _ => Empty.elim x
  | d + 1 => fun _ _ _ _ _ _ ⟨so, si, h, h1, h2⟩ hk => ⟨so, si, h, h1.stay kp_onD hk, h2.stay (kp_stD d) hk⟩
def varD (x : List UInt8 × Int × Pl) : List Value := [sD x.1, .int .i64 x.2.1, .int .i64 x.2.2.1, .int .i64 x.2.2.2]
def rVarD (ok : Nat → Prop) (w : World) (x : List UInt8 × Int × Pl) (cs : List Value) : Prop := cs = varD x
theorem kp_varD : Kp rVarD := fun _ _ _ _ _ _ h _ => h
abbrev ChD (d : Nat) := (List UInt8 × Pl) × Int × List (List UInt8 × Int × Pl) × List (St d)
def RdD (ok : Nat → Prop) (w : World) (d : Nat) (c : ChD d) (v : Value) : Prop :=
  ∃ sv ss, v = .agg #[sD c.1.1, .int .i64 c.2.1, .int .i64 c.1.2.1, .int .i64 c.1.2.2, sv, ss] ∧ RdK ok w 4 (rVarD ok w) c.2.2.1 sv ∧ RdK ok w 11 (rStD d ok w) c.2.2.2 ss
theorem RdD.keep {ok ok' : Nat → Prop} {w w' : World} {d : Nat} {c : ChD d} {v : Value} (h : RdD ok w d c v) (hk : ∀ b, ok b → b < w.heap.size → ok' b ∧ w'.heap[b]? = w.heap[b]?) : RdD ok' w' d c v := by
  obtain ⟨sv, ss, h1, h2, h3⟩ := h
  exact ⟨sv, ss, h1, h2.stay kp_varD hk, h3.stay (kp_stD d) hk⟩
theorem disR_any {w : World} {X : Nat} {fin : Pl} {r : RsC} (h : DR w X fin r) (t : List UInt8) :
    Calls Tryz.prog 34 #[.pointer (some ⟨X, 0, none⟩), .string ⟨t.toArray⟩] w fun e w' => e = .returned (.bool (isC t r)) ∧ DR w' X fin r ∧ Fx X w w' := by
  obtain ⟨a, cap, h⟩ := h
  refine (dis_any h t).mono ?_
  rintro e w' ⟨rfl, m, rfl⟩
  exact ⟨rfl, ⟨a, cap, h.on (draws w m)⟩, (Fx.refl X w).drewN m⟩
def ln0 (w : World) (X : Nat) : Nat := match w.cell? ⟨X, 0, none⟩ with | some (.slice _ n _) => n | _ => 0
theorem DR.left {w : World} {X : Nat} {fin : Pl} {r : RsC} (h : DR w X fin r) : ln0 w X = r.1.length := by
  obtain ⟨a, cap, h⟩ := h
  unfold ln0
  rw [(h.b 0 _ rfl).1]
theorem DR.len {w : World} {X : Nat} {fin : Pl} {r : RsC} (h : DR w X fin r) : r.1.length ≤ 3000 := by
  obtain ⟨a, cap, h⟩ := h
  exact h.n
theorem sets_yesD {fin : Pl} {g : Nat} {acc : List (List UInt8 × Sx)} {r : RsC} (h : isC wSet r = true) : setsR fin (g + 1) acc r = setsR fin g (acc ++ [((nameR fin (takeR fin wSet r)).1.1, (exprR fin (takeR fin [61] (nameR fin (takeR fin wSet r)).2)).1)]) (exprR fin (takeR fin [61] (nameR fin (takeR fin wSet r)).2)).2 := by
  show (if isC wSet r = true then _ else _) = _
  rw [if_pos h]
theorem sets_noD {fin : Pl} {g : Nat} {acc : List (List UInt8 × Sx)} {r : RsC} (h : isC wSet r = false) : setsR fin (g + 1) acc r = (acc, r) := by
  show (if isC wSet r = true then _ else _) = _
  rw [if_neg (by rw [h]; decide)]
theorem Fx.andD {X B : Nat} {a b c : World} (h : Fx X a b) (k : Below B b c) (hB : a.heap.size ≤ B) : Fx X a c :=
  ⟨k.os.trans h.os, k.tape.trans h.tape, k.output.trans h.output, Nat.le_trans h.size k.size, fun j hj h1 => (k.block j (by omega)).trans (h.block j hj h1)⟩
abbrev zO10 : Obj := .cells #[.string ⟨#[]⟩, .bool false, .int .i64 0, .int .i64 0, .string ⟨#[]⟩, .slice none 0 0, .string ⟨#[]⟩, .slice none 0 0, .int .i64 0, .int .i64 0] 135
abbrev zOd : List Value := [.string ⟨#[]⟩, .bool false, .int .i64 0, .int .i64 0, .string ⟨#[]⟩, .slice none 0 0, .string ⟨#[]⟩, .slice none 0 0, .int .i64 0, .int .i64 0]
abbrev zS5 : Obj := .cells #[.string ⟨#[]⟩, .int .i64 0, .int .i64 0, .string ⟨#[]⟩, .slice none 0 0] 147
abbrev zSd : List Value := [.string ⟨#[]⟩, .int .i64 0, .int .i64 0, .string ⟨#[]⟩, .slice none 0 0]
theorem Tryz.infoSetD : (Tryz.prog.info? 147).map (fun i => (i.zero, i.size, i.bytes)) = some (some (.agg #[.string ⟨#[]⟩, .int .i64 0, .int .i64 0, .string ⟨#[]⟩, .slice none 0 0]), 5, 72) := by kernel_rfl
theorem don_res {w4 : World} {R : Nat} {a b c d e f g h i j : Value} {tmps : Array Value} (hR : Bn w4 R [a, b, c, d, e, f, g, h, i, j]) (ht : tmps.getD 2 undef = .pointer (some ⟨R, 0, none⟩)) : (results Tryz.f79 tmps).run Tryz.prog w4 = .ok (.agg #[a, b, c, d, e, f, g, h, i, j]) w4 := by
  have ht' : tmps[2]?.getD undef = .pointer (some ⟨R, 0, none⟩) := by simpa using ht
  have c0 := (hR 0 _ rfl).1
  have c1 := (hR 1 _ rfl).1
  have c2 := (hR 2 _ rfl).1
  have c3 := (hR 3 _ rfl).1
  have c4 := (hR 4 _ rfl).1
  have c5 := (hR 5 _ rfl).1
  have c6 := (hR 6 _ rfl).1
  have c7 := (hR 7 _ rfl).1
  have c8 := (hR 8 _ rfl).1
  have c9 := (hR 9 _ rfl).1
  simp [results, Tryz.results79, go_sem, ht', c0, c1, c2, c3, c4, c5, c6, c7, c8, c9]
set_option maxRecDepth 100000 in
set_option maxHeartbeats 8000000 in
theorem don_any {w : World} {X : Nat} {fin : Pl} {r : RsC} (h : DR w X fin r) (hTy : Ty w X) :
    Calls Tryz.prog 79 #[.pointer (some ⟨X, 0, none⟩)] w fun e w' => (∃ cs, e = .returned (.agg cs.toArray) ∧ rOnD (fun b => w.heap.size ≤ b) w' (onR fin r).1 cs) ∧ DR w' X fin (onR fin r).2 ∧ Fx X w w' := by
  obtain ⟨i0, hi, hz0, hz1, hz2⟩ := info_parts Tryz.infoSetD
  have hX := h.lt
  have hbel : Below w.heap.size w ((w.alloc zO10).alloc zO10) := ((Below.refl _ _).alloc (Nat.le_refl _) _).alloc (by simp) _
  have hp0 := h.on hbel
  have hT0 := hTy.on hbel
  have hA0 : Bn ((w.alloc zO10).alloc zO10) w.heap.size zOd := (Bn.new w zOd 135 _ rfl).on ((Below.refl _ _).alloc (Nat.le_refl _) _)
  have hB0 : Bn ((w.alloc zO10).alloc zO10) (w.heap.size + 1) zOd := Bn.new (w.alloc zO10) zOd 135 _ (by simp)
  have hs0 : w.heap.size + 2 ≤ ((w.alloc zO10).alloc zO10).heap.size := by simp
  have hF0 : Fx X w ((w.alloc zO10).alloc zO10) := Fx.of hbel (Nat.le_refl _)
  obtain ⟨RES, hRES⟩ : ∃ x, onR fin r = x := ⟨_, rfl⟩
  rw [hRES]
  unfold onR at hRES
  have e0 : (⟨wOn.toArray⟩ : ByteArray) = ⟨#[111, 110]⟩ := rfl
  have e1 : (⟨wIf.toArray⟩ : ByteArray) = ⟨#[105, 102]⟩ := rfl
  have e2 : (⟨wGo.toArray⟩ : ByteArray) = ⟨#[103, 111]⟩ := rfl
  have e3 : (⟨wSet.toArray⟩ : ByteArray) = ⟨#[115, 101, 116]⟩ := rfl
  have hM0 := dtake_any hp0 wOn
  rw [e0] at hM0
  generalize takeR fin wOn r = r0 at *
  have hN := fun w1 (hp : DR w1 X fin r0) (ht : Ty w1 X) => dname_any hp ht
  obtain ⟨⟨⟨nm, ln, co⟩, r1⟩, hR1⟩ : ∃ x, nameR fin r0 = x := ⟨_, rfl⟩
  simp only [hR1] at hN hRES
  have hS := fun w1 (hp : DR w1 X fin r1) => disR_any hp wIf
  have hM := fun w1 q (hp : DR w1 X fin q) => dtake_any hp wGo
  have hN2 := fun w1 q (hp : DR w1 X fin q) (ht : Ty w1 X) => dname_any hp ht
  have hQ := fun w1 q (hp : DR w1 X fin q) => disR_any hp wSet
  have hQ2 := fun w1 q (hp : DR w1 X fin q) => dtake_any hp wSet
  have hM3 := fun w1 q (hp : DR w1 X fin q) => dtake_any hp [61]
  have hX2 := fun w1 q (hp : DR w1 X fin q) (ht : Ty w1 X) => dexpr_any hp ht
  rw [e1] at hS
  rw [e2] at hM
  rw [e3] at hQ hQ2
  obtain ⟨ev, hev⟩ : ∃ nv, (⟨nm.toArray⟩ : ByteArray) = nv := ⟨_, rfl⟩
  simp only [hev] at hN
  have HEV : Hid ((⟨nm.toArray⟩ : ByteArray) = ev) := hev
  clear hR1 hev hbel h
  cases hif : isC wIf r1 with
  | false =>
    simp only [hif] at hS
    rw [hif, if_neg (by decide)] at hRES
    simp only at hRES
    go_enter Tryz.func79, Tryz.ntmps79
    go_upto_region 2 with fail
    generalize (w.alloc zO10).alloc zO10 = w0 at *
    go_upto_region 3 with (first
      | (go_at_call 31; refine hM0.mono ?_; rintro e w00 ⟨⟨u0, rfl⟩, hp00, hf00⟩))
    have hA00 := hA0.fx hf00 (by omega)
    have hB00 := hB0.fx hf00 (by omega)
    have hF00 := hF0.trans hf00
    have hs00 := Nat.le_trans hs0 hf00.size
    have hT00 := hT0.fx hf00
    clear hA0 hB0 hF0 hs0 hT0 hf00 hp0 hM0
    go_upto_region 4 with (first
      | (go_at_call 32; refine (hN _ hp00 hT00).mono ?_; rintro e w1 ⟨rfl, hp1, hf1⟩; have hA1 := hA00.fx hf1 (by omega); have hB1 := hB00.fx hf1 (by omega); have hF1 := hF00.trans hf1; obtain ⟨b0, g0⟩ := hB1 0 _ rfl; obtain ⟨b8, g8⟩ := hB1 8 _ rfl; obtain ⟨b9, g9⟩ := hB1 9 _ rfl))
    have hA2 := ((hA1.far (X := w.heap.size + 1) (i := 0) (by omega) (.string ev)).far (X := w.heap.size + 1) (i := 8) (by omega) (.int .i64 ln)).far (X := w.heap.size + 1) (i := 9) (by omega) (.int .i64 co)
    have hB2 := ((hB1.set (i := 0) (by simp) (.string ev)).set (i := 8) (by simp) (.int .i64 ln)).set (i := 9) (by simp) (.int .i64 co)
    have hp2 := ((hp1.far (Y := w.heap.size + 1) (i := 0) (by omega) (.string ev)).far (Y := w.heap.size + 1) (i := 8) (by omega) (.int .i64 ln)).far (Y := w.heap.size + 1) (i := 9) (by omega) (.int .i64 co)
    have hF2 := ((hF1.setN (N := w.heap.size + 1) (i := 0) (by omega) (.string ev)).setN (N := w.heap.size + 1) (i := 8) (by omega) (.int .i64 ln)).setN (N := w.heap.size + 1) (i := 9) (by omega) (.int .i64 co)
    have hT2 := hTy.fx hF2
    have hs2 : w.heap.size + 2 ≤ (((w1.setCell ⟨w.heap.size + 1, 0, none⟩ (.string ev)).setCell ⟨w.heap.size + 1, 8, none⟩ (.int .i64 ln)).setCell ⟨w.heap.size + 1, 9, none⟩ (.int .i64 co)).heap.size := by simpa using Nat.le_trans hs00 hf1.size
    clear hA00 hB00 hA1 hB1 hp1 hf1 hF1 hF00 b0 g0 b8 g8 b9 g9 hp00 hN hs00 hT00
    generalize ((w1.setCell ⟨w.heap.size + 1, 0, none⟩ (.string ev)).setCell ⟨w.heap.size + 1, 8, none⟩ (.int .i64 ln)).setCell ⟨w.heap.size + 1, 9, none⟩ (.int .i64 co) = w2 at *
    go_upto_region 7 with (first
      | (go_at_call 34; refine (hS _ hp2).mono ?_; rintro e w5 ⟨rfl, hp5, hf5⟩))
    have hA5 := hA2.fx hf5 (by omega)
    have hB5 : Bn w5 (w.heap.size + 1) [.string ev, .bool false, .int .i64 0, .int .i64 0, .string ⟨#[]⟩, .slice none 0 0, .string ⟨#[]⟩, .slice none 0 0, .int .i64 ln, .int .i64 co] := hB2.fx hf5 (by omega)
    have hF5 := hF2.trans hf5
    have hT5 := hT2.fx hf5
    have hs5 : w.heap.size + 2 ≤ w5.heap.size := Nat.le_trans hs2 hf5.size
    have hG5 : RdX (fun b => w.heap.size + 1 < b ∧ b < w5.heap.size ∧ b ≠ X) w5 noX (.agg #[.int .i64 0, .int .i64 0, .string ⟨#[]⟩, .slice none 0 0]) := rdX_no _ _
    clear hA2 hB2 hp2 hF2 hf5 hs2 hS hT2
    have hM1 := hM _ _ hp5
    have hN3 := fun w1 (hp : DR w1 X fin (takeR fin wGo r1)) (ht : Ty w1 X) => hN2 w1 _ hp ht
    generalize takeR fin wGo r1 = r3 at *
    obtain ⟨⟨⟨tn, tl, tc⟩, r4⟩, hR4⟩ : ∃ x, nameR fin r3 = x := ⟨_, rfl⟩
    simp only [hR4] at hN3 hRES
    obtain ⟨tg, htg⟩ : ∃ nv, (⟨tn.toArray⟩ : ByteArray) = nv := ⟨_, rfl⟩
    simp only [htg] at hN3
    obtain ⟨OUT, hOUT⟩ : ∃ o, setsR fin (r4.1.length + 1) [] r4 = o := ⟨_, rfl⟩
    rw [hOUT] at hRES
    have HO : Hid (setsR fin (r4.1.length + 1) [] r4 = OUT) := hOUT
    have HT : Hid ((⟨tn.toArray⟩ : ByteArray) = tg) := htg
    have HRES : Hid (((nm, (false, noX), tn, OUT.1, (ln, co)), OUT.2) = RES) := hRES
    clear hR4 htg hOUT hRES
    go_upto_region 8 with (first
      | (go_at_call 31; refine hM1.mono ?_; rintro e w6 ⟨⟨u, rfl⟩, hp6, hf6⟩))
    have hA6 := hA5.fx hf6 (by omega)
    have hB6 := hB5.fx hf6 (by omega)
    have hF6 := hF5.trans hf6
    have hT6 := hT5.fx hf6
    have hs6 := Nat.le_trans hs5 hf6.size
    have hG6 : RdX (fun b => w.heap.size + 1 < b ∧ b < w6.heap.size ∧ b ≠ X) w6 noX (.agg #[.int .i64 0, .int .i64 0, .string ⟨#[]⟩, .slice none 0 0]) := hG5.keep (fun b hb hl => ⟨⟨hb.1, Nat.lt_of_lt_of_le hl hf6.size, hb.2.2⟩, hf6.block b hl (fun e => hb.2.2 (Option.some.inj e))⟩)
    clear hA5 hB5 hp5 hF5 hf6 hs5 hM hM1 hT5 hG5
    go_upto_region 9 with (first
      | (go_at_call 32; refine (hN3 _ hp6 hT6).mono ?_; rintro e w7 ⟨rfl, hp7, hf7⟩; have hA7 := hA6.fx hf7 (by omega); have hB7 := hB6.fx hf7 (by omega); have hF7 := hF6.trans hf7; have hs7 := Nat.le_trans hs6 hf7.size; obtain ⟨b6, g6⟩ := hB7 6 _ rfl))
    have hA8 := hA7.far (X := w.heap.size + 1) (i := 6) (by omega) (.string tg)
    have hB8 : Bn (w7.setCell ⟨w.heap.size + 1, 6, none⟩ (.string tg)) (w.heap.size + 1) [.string ev, .bool false, .int .i64 0, .int .i64 0, .string ⟨#[]⟩, .slice none 0 0, .string tg, .slice none 0 0, .int .i64 ln, .int .i64 co] := hB7.set (i := 6) (by simp) (.string tg)
    have hp8 := hp7.far (Y := w.heap.size + 1) (i := 6) (by omega) (.string tg)
    have hF8 := hF7.setN (N := w.heap.size + 1) (i := 6) (by omega) (.string tg)
    have hT8 := hTy.fx hF8
    have hs8 : w.heap.size + 2 ≤ (w7.setCell ⟨w.heap.size + 1, 6, none⟩ (.string tg)).heap.size := by simpa using hs7
    have hG8 : RdX (fun b => w.heap.size + 1 < b ∧ b < (w7.setCell ⟨w.heap.size + 1, 6, none⟩ (.string tg)).heap.size ∧ b ≠ X) (w7.setCell ⟨w.heap.size + 1, 6, none⟩ (.string tg)) noX (.agg #[.int .i64 0, .int .i64 0, .string ⟨#[]⟩, .slice none 0 0]) := hG6.keep (fun b hb hl => ⟨⟨hb.1, by have := hf7.size; simp; omega, hb.2.2⟩, (Below.heap_setCell _ _ _ _ (fun e => by have e2 : b = w.heap.size + 1 := e; omega)).trans (hf7.block b hl (fun e => hb.2.2 (Option.some.inj e)))⟩)
    clear hA6 hB6 hp6 hF6 hA7 hB7 hp7 hF7 hf7 hs6 hs7 b6 g6 hN3 hT6 hG6
    generalize w7.setCell ⟨w.heap.size + 1, 6, none⟩ (.string tg) = w8 at *
    have hl4 := hp8.len
    obtain ⟨L, hL⟩ : ∃ L, w8.heap.size = L := ⟨_, rfl⟩
    rw [hL] at hs8 hG8
    have hsL : L ≤ w8.heap.size := Nat.le_of_eq hL.symm
    clear hL
    go_loopw [] (fun wr => ∃ (g : Nat) (acc : List (List UInt8 × Sx)) (q : RsC) (slv : Value), DR wr X fin q ∧ Hid (setsR fin g acc q = OUT) ∧ q.1.length < g ∧ acc.length + q.1.length ≤ 3000 ∧ Bn wr (w.heap.size + 1) [.string ev, .bool false, .int .i64 0, .int .i64 0, .string ⟨#[]⟩, .slice none 0 0, .string tg, slv, .int .i64 ln, .int .i64 co] ∧ OwnB wr L (fun _ => False) 147 5 rSetD slv acc ∧ RdX (fun b => w.heap.size + 1 < b ∧ b < L ∧ b ≠ X) wr noX (.agg #[.int .i64 0, .int .i64 0, .string ⟨#[]⟩, .slice none 0 0]) ∧ Bn wr w.heap.size zOd ∧ Ty wr X ∧ Fx X w wr ∧ L ≤ wr.heap.size) (fun wr => ln0 wr X)
    case atStart => exact ⟨_, [], r4, _, hp8, HO, Nat.lt_succ_self _, by simp; omega, hB8, ownB_nil _ _ _ _ _ _, hG8, hA8, hT8, hF8, hsL⟩
    case round =>
      clear hA8 hB8 hp8 hF8 hT8 hG8 hsL HO
      obtain ⟨g, acc, q, slv, hp, ho, hgl, hal, hB, hO, hG, hA, hTr, hF, hsz⟩ := hrel
      obtain ⟨g', rfl⟩ : ∃ g', g = g' + 1 := ⟨g - 1, by omega⟩
      have hm1 := hp.left
      have hXL : X < L := by omega
      obtain ⟨va, vc, rfl, hvl, hvm⟩ := hO.form
      have hQ1 := hQ _ _ hp
      cases hi1 : isC wSet q with
      | true =>
        rw [hi1] at hQ1
        have hout := ho.out
        rw [sets_yesD hi1] at hout
        have hlt := takeR_less fin hi1
        have hgo := ((goes_name fin (takeR fin wSet q)).trans ((goes_take fin [61] _).trans (goes_expr fin _))).1
        have hQ3 := fun w1 (hp : DR w1 X fin q) => hQ2 w1 _ hp
        have hN4 := fun w1 (hp : DR w1 X fin (takeR fin wSet q)) (ht : Ty w1 X) => hN2 w1 _ hp ht
        generalize takeR fin wSet q = q1 at *
        obtain ⟨⟨⟨sm, sl1, sc1⟩, q2⟩, hR5⟩ : ∃ x, nameR fin q1 = x := ⟨_, rfl⟩
        simp only [hR5] at hN4 hout hgo
        have hM4 := fun w1 (hp : DR w1 X fin q2) => hM3 w1 _ hp
        have hX3 := fun w1 (hp : DR w1 X fin (takeR fin [61] q2)) (ht : Ty w1 X) => hX2 w1 _ hp ht
        generalize takeR fin [61] q2 = q3 at *
        obtain ⟨⟨sx, q4⟩, hR6⟩ : ∃ x, exprR fin q3 = x := ⟨_, rfl⟩
        simp only [hR6] at hX3 hout hgo
        obtain ⟨sn, hsn⟩ : ∃ nv, (⟨sm.toArray⟩ : ByteArray) = nv := ⟨_, rfl⟩
        simp only [hsn] at hN4
        have HSN : Hid ((⟨sm.toArray⟩ : ByteArray) = sn) := hsn
        have HOUT : Hid (setsR fin g' (acc ++ [(sm, sx)]) q4 = OUT) := hout
        clear hR5 hR6 hout ho hsn hN2 hM3 hX2 hQ hQ2
        go_upto_region 11 with (first
          | (go_at_call 34; refine hQ1.mono ?_; rintro e w9 ⟨rfl, hp9, hf9⟩)
          | (go_at_call 31; refine (hQ3 _ hp9).mono ?_; rintro e wa ⟨⟨u, rfl⟩, hpa, hfa⟩))
        have hfa2 := hf9.trans hfa
        have hTa := hTr.fx hfa2
        have hala := (Below.refl wa.heap.size wa).alloc (Nat.le_refl _) zS5
        have hTb : Bn (wa.alloc zS5) wa.heap.size zSd := Bn.new wa zSd 147 _ rfl
        have hpb := hpa.on hala
        have hTyb := hTa.on hala
        have hfb := hfa2.alloc zS5
        have hsT : wr.heap.size ≤ wa.heap.size := hfa2.size
        go_upto_region 12 with fail
        obtain ⟨T, hT⟩ : ∃ T, wa.heap.size = T := ⟨_, rfl⟩
        rw [hT] at hTb hsT ⊢
        clear hp9 hf9 hfa hfa2 hTa hala hpa hQ1 hQ3 hT
        generalize wa.alloc zS5 = wb at *
        go_upto_region 13 with (first
          | (go_at_call 32; refine (hN4 _ hpb hTyb).mono ?_; rintro e wc ⟨rfl, hpc, hfc⟩; have hTc := hTb.fx hfc (by omega); obtain ⟨b0, g0⟩ := hTc 0 _ rfl))
        have hTd := hTc.set (i := 0) (by simp) (.string sn)
        have hpd := hpc.far (Y := T) (i := 0) (by omega) (.string sn)
        have hfd := (hfb.trans hfc).setN (N := T) (i := 0) hsT (.string sn)
        have hTyd := hTr.fx hfd
        clear hTb hTc hpb hpc hfb hfc b0 g0 hN4 hTyb
        generalize wc.setCell ⟨T, 0, none⟩ (.string sn) = wd at *
        go_upto_region 14 with (first
          | (go_at_call 31; refine (hM4 _ hpd).mono ?_; rintro e we ⟨⟨u, rfl⟩, hpe, hfe⟩))
        have hTe := hTd.fx hfe (by omega)
        have hfe2 := hfd.trans hfe
        have hTye := hTyd.fx hfe
        clear hTd hpd hfd hfe hTyd hM4
        go_upto_region 15 with (first
          | (go_at_call 120; refine (hX3 _ hpe hTye).mono ?_; rintro e wf ⟨⟨u6, rfl, hx6⟩, hpf, hff⟩; obtain ⟨yk, ym, ys, ya, yl, yc, rfl⟩ := hx6.form; have hTf := hTe.fx hff (by omega); obtain ⟨b1, g1⟩ := hTf 1 _ rfl; obtain ⟨b2, g2⟩ := hTf 2 _ rfl; obtain ⟨b3, g3⟩ := hTf 3 _ rfl; obtain ⟨b4, g4⟩ := hTf 4 _ rfl))
        have hTlt := hTe.lt
        have hTg := (((hTf.set (i := 1) (by simp) (.int .i64 yk)).set (i := 2) (by simp) (.int .i64 ym)).set (i := 3) (by simp) (.string ys)).set (i := 4) (by simp) (.slice ya yl yc)
        have hpg := (((hpf.far (Y := T) (i := 1) (by omega) (.int .i64 yk)).far (Y := T) (i := 2) (by omega) (.int .i64 ym)).far (Y := T) (i := 3) (by omega) (.string ys)).far (Y := T) (i := 4) (by omega) (.slice ya yl yc)
        have hfg := ((((hfe2.trans hff).setN (N := T) (i := 1) hsT (.int .i64 yk)).setN (N := T) (i := 2) hsT (.int .i64 ym)).setN (N := T) (i := 3) hsT (.string ys)).setN (N := T) (i := 4) hsT (.slice ya yl yc)
        have hx7 : rSetD (fun b => wr.heap.size ≤ b) ((((wf.setCell ⟨T, 1, none⟩ (.int .i64 yk)).setCell ⟨T, 2, none⟩ (.int .i64 ym)).setCell ⟨T, 3, none⟩ (.string ys)).setCell ⟨T, 4, none⟩ (.slice ya yl yc)) (sm, sx) [.string sn, .int .i64 yk, .int .i64 ym, .string ys, .slice ya yl yc] := by
          refine ⟨_, _, _, _, by rw [← HSN.out]; rfl, hx6.keep (fun b hb hl => ⟨by omega, ?_⟩)⟩
          rw [Below.heap_setCell _ _ _ _ (fun e => by have e2 : b = T := e; omega), Below.heap_setCell _ _ _ _ (fun e => by have e2 : b = T := e; omega), Below.heap_setCell _ _ _ _ (fun e => by have e2 : b = T := e; omega), Below.heap_setCell _ _ _ _ (fun e => by have e2 : b = T := e; omega)]
        clear hTe hTf hpe hpf hfe2 hff hx6 b1 g1 b2 g2 b3 g3 b4 g4 hX3 hTye hTlt
        generalize (((wf.setCell ⟨T, 1, none⟩ (.int .i64 yk)).setCell ⟨T, 2, none⟩ (.int .i64 ym)).setCell ⟨T, 3, none⟩ (.string ys)).setCell ⟨T, 4, none⟩ (.slice ya yl yc) = wg at *
        have hBg := hB.fx hfg (by omega)
        have hAg := hA.fx hfg (by omega)
        have hOg := hO.fx kp_setD hfg hXL
        have hGg : RdX (fun b => w.heap.size + 1 < b ∧ b < L ∧ b ≠ X) wg noX (.agg #[.int .i64 0, .int .i64 0, .string ⟨#[]⟩, .slice none 0 0]) := hG.keep (fun b hb hl => ⟨hb, hfg.block b hl (fun e => hb.2.2 (Option.some.inj e))⟩)
        have hTyg := hTr.fx hfg
        have hFg := hF.trans hfg
        have hsg := Nat.le_trans hsz hfg.size
        obtain ⟨k7, j7⟩ := hBg 7 _ rfl
        obtain ⟨t0, _⟩ := hTg 0 _ rfl
        obtain ⟨t1, _⟩ := hTg 1 _ rfl
        obtain ⟨t2, _⟩ := hTg 2 _ rfl
        obtain ⟨t3, _⟩ := hTg 3 _ rfl
        obtain ⟨t4, _⟩ := hTg 4 _ rfl
        go_wp2_with (first
          | (at_builtin; refine wpList_pushB wg rfl _ _ 133 rfl L (fun _ => False) 147 i0 (.agg #[.string ⟨#[]⟩, .int .i64 0, .int .i64 0, .string ⟨#[]⟩, .slice none 0 0]) 5 72 Tryz.underlying133 hi hz0 hz1 hz2 rfl kp_setD (.slice va acc.length vc) acc (sm, sx) [.string sn, .int .i64 yk, .int .i64 ym, .string ys, .slice ya yl yc] wr.heap.size rfl rfl rfl (by simp [Value.oneCell']) hOg hx7 hsz (fun x hx => (hO.lt x hx).2) (fun b hb => hb.elim) (by omega) (by unfold maxLen; omega) hsg ?_; intro vb wb2 hOb hgb hbb hat; have hBb := hBg.blk (hbb.block _ (by omega)); obtain ⟨m7, n7⟩ := hBb 7 _ rfl; obtain ⟨vba, vbc, hvb, hvbl, hvbm⟩ := hOb.form; rw [List.length_append, List.length_singleton] at hvb; subst hvb))
        have hAb := hAg.blk (hbb.block _ (by omega))
        have hpb := hpg.belowB hbb (by omega)
        have hGb : RdX (fun b => w.heap.size + 1 < b ∧ b < L ∧ b ≠ X) wb2 noX (.agg #[.int .i64 0, .int .i64 0, .string ⟨#[]⟩, .slice none 0 0]) := hGg.keep (fun b hb hl => ⟨hb, hbb.block b hb.2.1⟩)
        have hTyb := hTyg.bel hbb hXL
        have hFb := hFg.andD hbb (by omega)
        have hsb := Nat.le_trans hsg hbb.size
        have hBc := hBb.set (i := 7) (by simp) (.slice vba (acc.length + 1) vbc)
        have hAc := hAb.far (X := w.heap.size + 1) (i := 7) (by omega) (.slice vba (acc.length + 1) vbc)
        have hOc := hOb.set kp_setD (X := w.heap.size + 1) (i := 7) (by omega) (.slice vba (acc.length + 1) vbc)
        have hpc := hpb.far (Y := w.heap.size + 1) (i := 7) (by omega) (.slice vba (acc.length + 1) vbc)
        have hGc : RdX (fun b => w.heap.size + 1 < b ∧ b < L ∧ b ≠ X) (wb2.setCell ⟨w.heap.size + 1, 7, none⟩ (.slice vba (acc.length + 1) vbc)) noX (.agg #[.int .i64 0, .int .i64 0, .string ⟨#[]⟩, .slice none 0 0]) := hGb.keep (fun b hb hl => ⟨hb, Below.heap_setCell _ _ _ _ (fun e => by have e2 : b = w.heap.size + 1 := e; omega)⟩)
        have hTyc := hTyb.far (Y := w.heap.size + 1) (i := 7) (by omega) (.slice vba (acc.length + 1) vbc)
        have hFc := hFb.setN (N := w.heap.size + 1) (i := 7) (by omega) (.slice vba (acc.length + 1) vbc)
        have hsc : L ≤ (wb2.setCell ⟨w.heap.size + 1, 7, none⟩ (.slice vba (acc.length + 1) vbc)).heap.size := by simpa using hsb
        have hm2 := hpc.left
        have hlc : (acc ++ [(sm, sx)]).length = acc.length + 1 := by simp
        clear hBb hAb hpb hGb hTyb hFb hsb hBg hAg hOg hGg hTyg hFg hsg hTg hpg hfg t0 t1 t2 t3 t4 k7 j7 m7 n7 hgb hbb hat hOb hx7
        go_roundw
        case rel => exact ⟨g', acc ++ [(sm, sx)], q4, _, hpc, HOUT, by omega, by omega, hBc, hOc, hGc, hAc, hTyc, hFc, hsc⟩
        case measure => omega
      | false =>
        rw [hi1] at hQ1
        have hout := ho.out
        rw [sets_noD hi1] at hout
        have HOUT : Hid ((acc, q) = OUT) := hout
        clear hout ho
        go_upto_region 16 with (first
          | (go_at_call 34; refine hQ1.mono ?_; rintro e w9 ⟨rfl, hp9, hf9⟩))
        have hBa := hB.fx hf9 (by omega)
        have hAa := hA.fx hf9 (by omega)
        have hOa := hO.fx kp_setD hf9 hXL
        have hGa : RdX (fun b => w.heap.size + 1 < b) w9 noX (.agg #[.int .i64 0, .int .i64 0, .string ⟨#[]⟩, .slice none 0 0]) := hG.keep (fun b hb hl => ⟨hb.1, hf9.block b hl (fun e => hb.2.2 (Option.some.inj e))⟩)
        have hFa := hF.trans hf9
        clear hB hA hO hF hf9 hsz hp hQ1 hG hTr
        obtain ⟨b0, g0⟩ := hBa 0 _ rfl
        obtain ⟨b1, g1⟩ := hBa 1 _ rfl
        obtain ⟨b2, g2⟩ := hBa 2 _ rfl
        obtain ⟨b3, g3⟩ := hBa 3 _ rfl
        obtain ⟨b4, g4⟩ := hBa 4 _ rfl
        obtain ⟨b5, g5⟩ := hBa 5 _ rfl
        obtain ⟨b6, g6⟩ := hBa 6 _ rfl
        obtain ⟨b7, g7⟩ := hBa 7 _ rfl
        obtain ⟨b8, g8⟩ := hBa 8 _ rfl
        obtain ⟨b9, g9⟩ := hBa 9 _ rfl
        obtain ⟨a0, k0⟩ := hAa 0 _ rfl
        obtain ⟨a1, k1⟩ := hAa 1 _ rfl
        obtain ⟨a2, k2⟩ := hAa 2 _ rfl
        obtain ⟨a3, k3⟩ := hAa 3 _ rfl
        obtain ⟨a4, k4⟩ := hAa 4 _ rfl
        obtain ⟨a5, k5⟩ := hAa 5 _ rfl
        obtain ⟨a6, k6⟩ := hAa 6 _ rfl
        obtain ⟨a7, k7⟩ := hAa 7 _ rfl
        obtain ⟨a8, k8⟩ := hAa 8 _ rfl
        obtain ⟨a9, k9⟩ := hAa 9 _ rfl
        have hAz := ((((((((((hAa.set (i := 0) (by simp) (.string ev)).set (i := 1) (by simp) (.bool false)).set (i := 2) (by simp) (.int .i64 0)).set (i := 3) (by simp) (.int .i64 0)).set (i := 4) (by simp) (.string ⟨#[]⟩)).set (i := 5) (by simp) (.slice none 0 0)).set (i := 6) (by simp) (.string tg)).set (i := 7) (by simp) (.slice va acc.length vc)).set (i := 8) (by simp) (.int .i64 ln)).set (i := 9) (by simp) (.int .i64 co))
        have hpz := ((((((((((hp9.far (Y := w.heap.size) (i := 0) hX (.string ev)).far (Y := w.heap.size) (i := 1) hX (.bool false)).far (Y := w.heap.size) (i := 2) hX (.int .i64 0)).far (Y := w.heap.size) (i := 3) hX (.int .i64 0)).far (Y := w.heap.size) (i := 4) hX (.string ⟨#[]⟩)).far (Y := w.heap.size) (i := 5) hX (.slice none 0 0)).far (Y := w.heap.size) (i := 6) hX (.string tg)).far (Y := w.heap.size) (i := 7) hX (.slice va acc.length vc)).far (Y := w.heap.size) (i := 8) hX (.int .i64 ln)).far (Y := w.heap.size) (i := 9) hX (.int .i64 co))
        have hFz := ((((((((((hFa.setN (N := w.heap.size) (i := 0) (Nat.le_refl _) (.string ev)).setN (N := w.heap.size) (i := 1) (Nat.le_refl _) (.bool false)).setN (N := w.heap.size) (i := 2) (Nat.le_refl _) (.int .i64 0)).setN (N := w.heap.size) (i := 3) (Nat.le_refl _) (.int .i64 0)).setN (N := w.heap.size) (i := 4) (Nat.le_refl _) (.string ⟨#[]⟩)).setN (N := w.heap.size) (i := 5) (Nat.le_refl _) (.slice none 0 0)).setN (N := w.heap.size) (i := 6) (Nat.le_refl _) (.string tg)).setN (N := w.heap.size) (i := 7) (Nat.le_refl _) (.slice va acc.length vc)).setN (N := w.heap.size) (i := 8) (Nat.le_refl _) (.int .i64 ln)).setN (N := w.heap.size) (i := 9) (Nat.le_refl _) (.int .i64 co))
        have hOz := ((((((((((hOa.set kp_setD (X := w.heap.size) (i := 0) (by omega) (.string ev)).set kp_setD (X := w.heap.size) (i := 1) (by omega) (.bool false)).set kp_setD (X := w.heap.size) (i := 2) (by omega) (.int .i64 0)).set kp_setD (X := w.heap.size) (i := 3) (by omega) (.int .i64 0)).set kp_setD (X := w.heap.size) (i := 4) (by omega) (.string ⟨#[]⟩)).set kp_setD (X := w.heap.size) (i := 5) (by omega) (.slice none 0 0)).set kp_setD (X := w.heap.size) (i := 6) (by omega) (.string tg)).set kp_setD (X := w.heap.size) (i := 7) (by omega) (.slice va acc.length vc)).set kp_setD (X := w.heap.size) (i := 8) (by omega) (.int .i64 ln)).set kp_setD (X := w.heap.size) (i := 9) (by omega) (.int .i64 co))
        have hGz := hGa.keep (ok' := fun b => w.heap.size ≤ b) (w' := ((((((((((w9.setCell ⟨w.heap.size, 0, none⟩ (.string ev)).setCell ⟨w.heap.size, 1, none⟩ (.bool false)).setCell ⟨w.heap.size, 2, none⟩ (.int .i64 0)).setCell ⟨w.heap.size, 3, none⟩ (.int .i64 0)).setCell ⟨w.heap.size, 4, none⟩ (.string ⟨#[]⟩)).setCell ⟨w.heap.size, 5, none⟩ (.slice none 0 0)).setCell ⟨w.heap.size, 6, none⟩ (.string tg)).setCell ⟨w.heap.size, 7, none⟩ (.slice va acc.length vc)).setCell ⟨w.heap.size, 8, none⟩ (.int .i64 ln)).setCell ⟨w.heap.size, 9, none⟩ (.int .i64 co))) (fun b hb hl => ⟨by omega, by rw [Below.heap_setCell _ _ _ _ (fun e => by have e2 : b = w.heap.size := e; omega), Below.heap_setCell _ _ _ _ (fun e => by have e2 : b = w.heap.size := e; omega), Below.heap_setCell _ _ _ _ (fun e => by have e2 : b = w.heap.size := e; omega), Below.heap_setCell _ _ _ _ (fun e => by have e2 : b = w.heap.size := e; omega), Below.heap_setCell _ _ _ _ (fun e => by have e2 : b = w.heap.size := e; omega), Below.heap_setCell _ _ _ _ (fun e => by have e2 : b = w.heap.size := e; omega), Below.heap_setCell _ _ _ _ (fun e => by have e2 : b = w.heap.size := e; omega), Below.heap_setCell _ _ _ _ (fun e => by have e2 : b = w.heap.size := e; omega), Below.heap_setCell _ _ _ _ (fun e => by have e2 : b = w.heap.size := e; omega), Below.heap_setCell _ _ _ _ (fun e => by have e2 : b = w.heap.size := e; omega)]⟩)
        clear hBa hAa hp9 hFa hOa hGa
        go_wp2
        refine bodyPost_ret (don_res hAz rfl) rfl ?_
        have hr := HRES.out
        have hoo := HOUT.out
        have hev := HEV.out
        have htg := HT.out
        subst hoo
        subst hr
        subst hev
        subst htg
        exact ⟨⟨_, rfl, _, _, _, _, _, rfl, hGz, (hOz.rd kp_setD).low kp_setD (by omega)⟩, hpz, hFz⟩
  | true =>
    simp only [hif] at hS
    rw [hif, if_pos rfl] at hRES
    have hI2 := fun w1 (hp : DR w1 X fin r1) => dtake_any hp wIf
    rw [e1] at hI2
    have hXp := fun w1 (hp : DR w1 X fin (takeR fin wIf r1)) (ht : Ty w1 X) => dexpr_any hp ht
    generalize takeR fin wIf r1 = r2 at *
    obtain ⟨⟨gx, rg⟩, hgx⟩ : ∃ y, exprR fin r2 = y := ⟨_, rfl⟩
    simp only [hgx] at hXp hRES
    clear hgx hif
    go_enter Tryz.func79, Tryz.ntmps79
    go_upto_region 2 with fail
    generalize (w.alloc zO10).alloc zO10 = w0 at *
    go_upto_region 3 with (first
      | (go_at_call 31; refine hM0.mono ?_; rintro e w00 ⟨⟨u0, rfl⟩, hp00, hf00⟩))
    have hA00 := hA0.fx hf00 (by omega)
    have hB00 := hB0.fx hf00 (by omega)
    have hF00 := hF0.trans hf00
    have hs00 := Nat.le_trans hs0 hf00.size
    have hT00 := hT0.fx hf00
    clear hA0 hB0 hF0 hs0 hT0 hf00 hp0 hM0
    go_upto_region 4 with (first
      | (go_at_call 32; refine (hN _ hp00 hT00).mono ?_; rintro e w1 ⟨rfl, hp1, hf1⟩; have hA1 := hA00.fx hf1 (by omega); have hB1 := hB00.fx hf1 (by omega); have hF1 := hF00.trans hf1; obtain ⟨b0, g0⟩ := hB1 0 _ rfl; obtain ⟨b8, g8⟩ := hB1 8 _ rfl; obtain ⟨b9, g9⟩ := hB1 9 _ rfl))
    have hA2 := ((hA1.far (X := w.heap.size + 1) (i := 0) (by omega) (.string ev)).far (X := w.heap.size + 1) (i := 8) (by omega) (.int .i64 ln)).far (X := w.heap.size + 1) (i := 9) (by omega) (.int .i64 co)
    have hB2 := ((hB1.set (i := 0) (by simp) (.string ev)).set (i := 8) (by simp) (.int .i64 ln)).set (i := 9) (by simp) (.int .i64 co)
    have hp2 := ((hp1.far (Y := w.heap.size + 1) (i := 0) (by omega) (.string ev)).far (Y := w.heap.size + 1) (i := 8) (by omega) (.int .i64 ln)).far (Y := w.heap.size + 1) (i := 9) (by omega) (.int .i64 co)
    have hF2 := ((hF1.setN (N := w.heap.size + 1) (i := 0) (by omega) (.string ev)).setN (N := w.heap.size + 1) (i := 8) (by omega) (.int .i64 ln)).setN (N := w.heap.size + 1) (i := 9) (by omega) (.int .i64 co)
    have hT2 := hTy.fx hF2
    have hs2 : w.heap.size + 2 ≤ (((w1.setCell ⟨w.heap.size + 1, 0, none⟩ (.string ev)).setCell ⟨w.heap.size + 1, 8, none⟩ (.int .i64 ln)).setCell ⟨w.heap.size + 1, 9, none⟩ (.int .i64 co)).heap.size := by simpa using Nat.le_trans hs00 hf1.size
    clear hA00 hB00 hA1 hB1 hp1 hf1 hF1 hF00 b0 g0 b8 g8 b9 g9 hp00 hN hs00 hT00
    generalize ((w1.setCell ⟨w.heap.size + 1, 0, none⟩ (.string ev)).setCell ⟨w.heap.size + 1, 8, none⟩ (.int .i64 ln)).setCell ⟨w.heap.size + 1, 9, none⟩ (.int .i64 co) = w2 at *
    go_upto_region 6 with (first
      | (go_at_call 34; refine (hS _ hp2).mono ?_; rintro e w3 ⟨rfl, hp3, hf3⟩)
      | (go_at_call 31; refine (hI2 _ hp3).mono ?_; rintro e w4 ⟨⟨u4, rfl⟩, hp4, hf4⟩))
    have hf34 := hf3.trans hf4
    have hA4 := hA2.fx hf34 (by omega)
    have hB4 := hB2.fx hf34 (by omega)
    have hF4 := hF2.trans hf34
    have hT4 := hT2.fx hf34
    have hs4 := Nat.le_trans hs2 hf34.size
    clear hA2 hB2 hp2 hF2 hf3 hf4 hs2 hS hT2 hp3 hf34 hI2
    go_upto_region 7 with (first
      | (go_at_call 120; refine (hXp _ hp4 hT4).mono ?_; rintro e w5a ⟨⟨u5, rfl, hg5⟩, hp5a, hf5a⟩; obtain ⟨xk, xm, xs, xa, xl, xc, rfl⟩ := hg5.form; have hA5a := hA4.fx hf5a (by omega); have hB5a := hB4.fx hf5a (by omega); have hF5a := hF4.trans hf5a; have hs5a := Nat.le_trans hs4 hf5a.size; obtain ⟨b1, g1⟩ := hB5a 1 _ rfl; obtain ⟨b2, g2⟩ := hB5a 2 _ rfl; obtain ⟨b3, g3⟩ := hB5a 3 _ rfl; obtain ⟨b4, g4⟩ := hB5a 4 _ rfl; obtain ⟨b5, g5⟩ := hB5a 5 _ rfl))
    have hA5 := (((((hA5a.far (X := w.heap.size + 1) (i := 1) (by omega) (.bool true)).far (X := w.heap.size + 1) (i := 2) (by omega) (.int .i64 xk)).far (X := w.heap.size + 1) (i := 3) (by omega) (.int .i64 xm)).far (X := w.heap.size + 1) (i := 4) (by omega) (.string xs)).far (X := w.heap.size + 1) (i := 5) (by omega) (.slice xa xl xc))
    have hB5 : Bn (((((w5a.setCell ⟨w.heap.size + 1, 1, none⟩ (.bool true)).setCell ⟨w.heap.size + 1, 2, none⟩ (.int .i64 xk)).setCell ⟨w.heap.size + 1, 3, none⟩ (.int .i64 xm)).setCell ⟨w.heap.size + 1, 4, none⟩ (.string xs)).setCell ⟨w.heap.size + 1, 5, none⟩ (.slice xa xl xc)) (w.heap.size + 1) [.string ev, .bool true, .int .i64 xk, .int .i64 xm, .string xs, .slice xa xl xc, .string ⟨#[]⟩, .slice none 0 0, .int .i64 ln, .int .i64 co] := (((((hB5a.set (i := 1) (by simp) (.bool true)).set (i := 2) (by simp) (.int .i64 xk)).set (i := 3) (by simp) (.int .i64 xm)).set (i := 4) (by simp) (.string xs)).set (i := 5) (by simp) (.slice xa xl xc))
    have hp5 := (((((hp5a.far (Y := w.heap.size + 1) (i := 1) (by omega) (.bool true)).far (Y := w.heap.size + 1) (i := 2) (by omega) (.int .i64 xk)).far (Y := w.heap.size + 1) (i := 3) (by omega) (.int .i64 xm)).far (Y := w.heap.size + 1) (i := 4) (by omega) (.string xs)).far (Y := w.heap.size + 1) (i := 5) (by omega) (.slice xa xl xc))
    have hF5 := (((((hF5a.setN (N := w.heap.size + 1) (i := 1) (by omega) (.bool true)).setN (N := w.heap.size + 1) (i := 2) (by omega) (.int .i64 xk)).setN (N := w.heap.size + 1) (i := 3) (by omega) (.int .i64 xm)).setN (N := w.heap.size + 1) (i := 4) (by omega) (.string xs)).setN (N := w.heap.size + 1) (i := 5) (by omega) (.slice xa xl xc))
    have hT5 := hTy.fx hF5
    have hs5 : w.heap.size + 2 ≤ (((((w5a.setCell ⟨w.heap.size + 1, 1, none⟩ (.bool true)).setCell ⟨w.heap.size + 1, 2, none⟩ (.int .i64 xk)).setCell ⟨w.heap.size + 1, 3, none⟩ (.int .i64 xm)).setCell ⟨w.heap.size + 1, 4, none⟩ (.string xs)).setCell ⟨w.heap.size + 1, 5, none⟩ (.slice xa xl xc)).heap.size := by simpa using hs5a
    have hG5 : RdX (fun b => w.heap.size + 1 < b ∧ b < (((((w5a.setCell ⟨w.heap.size + 1, 1, none⟩ (.bool true)).setCell ⟨w.heap.size + 1, 2, none⟩ (.int .i64 xk)).setCell ⟨w.heap.size + 1, 3, none⟩ (.int .i64 xm)).setCell ⟨w.heap.size + 1, 4, none⟩ (.string xs)).setCell ⟨w.heap.size + 1, 5, none⟩ (.slice xa xl xc)).heap.size ∧ b ≠ X) (((((w5a.setCell ⟨w.heap.size + 1, 1, none⟩ (.bool true)).setCell ⟨w.heap.size + 1, 2, none⟩ (.int .i64 xk)).setCell ⟨w.heap.size + 1, 3, none⟩ (.int .i64 xm)).setCell ⟨w.heap.size + 1, 4, none⟩ (.string xs)).setCell ⟨w.heap.size + 1, 5, none⟩ (.slice xa xl xc)) gx (.agg #[.int .i64 xk, .int .i64 xm, .string xs, .slice xa xl xc]) := hg5.keep (fun b hb hl => ⟨⟨by omega, by simpa using hl, by have := hp4.lt; omega⟩, by rw [Below.heap_setCell _ _ _ _ (fun e => by have e2 : b = w.heap.size + 1 := e; omega), Below.heap_setCell _ _ _ _ (fun e => by have e2 : b = w.heap.size + 1 := e; omega), Below.heap_setCell _ _ _ _ (fun e => by have e2 : b = w.heap.size + 1 := e; omega), Below.heap_setCell _ _ _ _ (fun e => by have e2 : b = w.heap.size + 1 := e; omega), Below.heap_setCell _ _ _ _ (fun e => by have e2 : b = w.heap.size + 1 := e; omega)]⟩)
    clear hA4 hB4 hp4 hF4 hA5a hB5a hp5a hF5a hf5a hs4 hs5a b1 g1 b2 g2 b3 g3 b4 g4 b5 g5 hXp hg5 hT4
    generalize (((((w5a.setCell ⟨w.heap.size + 1, 1, none⟩ (.bool true)).setCell ⟨w.heap.size + 1, 2, none⟩ (.int .i64 xk)).setCell ⟨w.heap.size + 1, 3, none⟩ (.int .i64 xm)).setCell ⟨w.heap.size + 1, 4, none⟩ (.string xs)).setCell ⟨w.heap.size + 1, 5, none⟩ (.slice xa xl xc)) = w5 at *
    have hM1 := hM _ _ hp5
    have hN3 := fun w1 (hp : DR w1 X fin (takeR fin wGo rg)) (ht : Ty w1 X) => hN2 w1 _ hp ht
    generalize takeR fin wGo rg = r3 at *
    obtain ⟨⟨⟨tn, tl, tc⟩, r4⟩, hR4⟩ : ∃ x, nameR fin r3 = x := ⟨_, rfl⟩
    simp only [hR4] at hN3 hRES
    obtain ⟨tg, htg⟩ : ∃ nv, (⟨tn.toArray⟩ : ByteArray) = nv := ⟨_, rfl⟩
    simp only [htg] at hN3
    obtain ⟨OUT, hOUT⟩ : ∃ o, setsR fin (r4.1.length + 1) [] r4 = o := ⟨_, rfl⟩
    rw [hOUT] at hRES
    have HO : Hid (setsR fin (r4.1.length + 1) [] r4 = OUT) := hOUT
    have HT : Hid ((⟨tn.toArray⟩ : ByteArray) = tg) := htg
    have HRES : Hid (((nm, (true, gx), tn, OUT.1, (ln, co)), OUT.2) = RES) := hRES
    clear hR4 htg hOUT hRES
    go_upto_region 8 with (first
      | (go_at_call 31; refine hM1.mono ?_; rintro e w6 ⟨⟨u, rfl⟩, hp6, hf6⟩))
    have hA6 := hA5.fx hf6 (by omega)
    have hB6 := hB5.fx hf6 (by omega)
    have hF6 := hF5.trans hf6
    have hT6 := hT5.fx hf6
    have hs6 := Nat.le_trans hs5 hf6.size
    have hG6 : RdX (fun b => w.heap.size + 1 < b ∧ b < w6.heap.size ∧ b ≠ X) w6 gx (.agg #[.int .i64 xk, .int .i64 xm, .string xs, .slice xa xl xc]) := hG5.keep (fun b hb hl => ⟨⟨hb.1, Nat.lt_of_lt_of_le hl hf6.size, hb.2.2⟩, hf6.block b hl (fun e => hb.2.2 (Option.some.inj e))⟩)
    clear hA5 hB5 hp5 hF5 hf6 hs5 hM hM1 hT5 hG5
    go_upto_region 9 with (first
      | (go_at_call 32; refine (hN3 _ hp6 hT6).mono ?_; rintro e w7 ⟨rfl, hp7, hf7⟩; have hA7 := hA6.fx hf7 (by omega); have hB7 := hB6.fx hf7 (by omega); have hF7 := hF6.trans hf7; have hs7 := Nat.le_trans hs6 hf7.size; obtain ⟨b6, g6⟩ := hB7 6 _ rfl))
    have hA8 := hA7.far (X := w.heap.size + 1) (i := 6) (by omega) (.string tg)
    have hB8 : Bn (w7.setCell ⟨w.heap.size + 1, 6, none⟩ (.string tg)) (w.heap.size + 1) [.string ev, .bool true, .int .i64 xk, .int .i64 xm, .string xs, .slice xa xl xc, .string tg, .slice none 0 0, .int .i64 ln, .int .i64 co] := hB7.set (i := 6) (by simp) (.string tg)
    have hp8 := hp7.far (Y := w.heap.size + 1) (i := 6) (by omega) (.string tg)
    have hF8 := hF7.setN (N := w.heap.size + 1) (i := 6) (by omega) (.string tg)
    have hT8 := hTy.fx hF8
    have hs8 : w.heap.size + 2 ≤ (w7.setCell ⟨w.heap.size + 1, 6, none⟩ (.string tg)).heap.size := by simpa using hs7
    have hG8 : RdX (fun b => w.heap.size + 1 < b ∧ b < (w7.setCell ⟨w.heap.size + 1, 6, none⟩ (.string tg)).heap.size ∧ b ≠ X) (w7.setCell ⟨w.heap.size + 1, 6, none⟩ (.string tg)) gx (.agg #[.int .i64 xk, .int .i64 xm, .string xs, .slice xa xl xc]) := hG6.keep (fun b hb hl => ⟨⟨hb.1, by have := hf7.size; simp; omega, hb.2.2⟩, (Below.heap_setCell _ _ _ _ (fun e => by have e2 : b = w.heap.size + 1 := e; omega)).trans (hf7.block b hl (fun e => hb.2.2 (Option.some.inj e)))⟩)
    clear hA6 hB6 hp6 hF6 hA7 hB7 hp7 hF7 hf7 hs6 hs7 b6 g6 hN3 hT6 hG6
    generalize w7.setCell ⟨w.heap.size + 1, 6, none⟩ (.string tg) = w8 at *
    have hl4 := hp8.len
    obtain ⟨L, hL⟩ : ∃ L, w8.heap.size = L := ⟨_, rfl⟩
    rw [hL] at hs8 hG8
    have hsL : L ≤ w8.heap.size := Nat.le_of_eq hL.symm
    clear hL
    go_loopw [] (fun wr => ∃ (g : Nat) (acc : List (List UInt8 × Sx)) (q : RsC) (slv : Value), DR wr X fin q ∧ Hid (setsR fin g acc q = OUT) ∧ q.1.length < g ∧ acc.length + q.1.length ≤ 3000 ∧ Bn wr (w.heap.size + 1) [.string ev, .bool true, .int .i64 xk, .int .i64 xm, .string xs, .slice xa xl xc, .string tg, slv, .int .i64 ln, .int .i64 co] ∧ OwnB wr L (fun _ => False) 147 5 rSetD slv acc ∧ RdX (fun b => w.heap.size + 1 < b ∧ b < L ∧ b ≠ X) wr gx (.agg #[.int .i64 xk, .int .i64 xm, .string xs, .slice xa xl xc]) ∧ Bn wr w.heap.size zOd ∧ Ty wr X ∧ Fx X w wr ∧ L ≤ wr.heap.size) (fun wr => ln0 wr X)
    case atStart => exact ⟨_, [], r4, _, hp8, HO, Nat.lt_succ_self _, by simp; omega, hB8, ownB_nil _ _ _ _ _ _, hG8, hA8, hT8, hF8, hsL⟩
    case round =>
      clear hA8 hB8 hp8 hF8 hT8 hG8 hsL HO
      obtain ⟨g, acc, q, slv, hp, ho, hgl, hal, hB, hO, hG, hA, hTr, hF, hsz⟩ := hrel
      obtain ⟨g', rfl⟩ : ∃ g', g = g' + 1 := ⟨g - 1, by omega⟩
      have hm1 := hp.left
      have hXL : X < L := by omega
      obtain ⟨va, vc, rfl, hvl, hvm⟩ := hO.form
      have hQ1 := hQ _ _ hp
      cases hi1 : isC wSet q with
      | true =>
        rw [hi1] at hQ1
        have hout := ho.out
        rw [sets_yesD hi1] at hout
        have hlt := takeR_less fin hi1
        have hgo := ((goes_name fin (takeR fin wSet q)).trans ((goes_take fin [61] _).trans (goes_expr fin _))).1
        have hQ3 := fun w1 (hp : DR w1 X fin q) => hQ2 w1 _ hp
        have hN4 := fun w1 (hp : DR w1 X fin (takeR fin wSet q)) (ht : Ty w1 X) => hN2 w1 _ hp ht
        generalize takeR fin wSet q = q1 at *
        obtain ⟨⟨⟨sm, sl1, sc1⟩, q2⟩, hR5⟩ : ∃ x, nameR fin q1 = x := ⟨_, rfl⟩
        simp only [hR5] at hN4 hout hgo
        have hM4 := fun w1 (hp : DR w1 X fin q2) => hM3 w1 _ hp
        have hX3 := fun w1 (hp : DR w1 X fin (takeR fin [61] q2)) (ht : Ty w1 X) => hX2 w1 _ hp ht
        generalize takeR fin [61] q2 = q3 at *
        obtain ⟨⟨sx, q4⟩, hR6⟩ : ∃ x, exprR fin q3 = x := ⟨_, rfl⟩
        simp only [hR6] at hX3 hout hgo
        obtain ⟨sn, hsn⟩ : ∃ nv, (⟨sm.toArray⟩ : ByteArray) = nv := ⟨_, rfl⟩
        simp only [hsn] at hN4
        have HSN : Hid ((⟨sm.toArray⟩ : ByteArray) = sn) := hsn
        have HOUT : Hid (setsR fin g' (acc ++ [(sm, sx)]) q4 = OUT) := hout
        clear hR5 hR6 hout ho hsn hN2 hM3 hX2 hQ hQ2
        go_upto_region 11 with (first
          | (go_at_call 34; refine hQ1.mono ?_; rintro e w9 ⟨rfl, hp9, hf9⟩)
          | (go_at_call 31; refine (hQ3 _ hp9).mono ?_; rintro e wa ⟨⟨u, rfl⟩, hpa, hfa⟩))
        have hfa2 := hf9.trans hfa
        have hTa := hTr.fx hfa2
        have hala := (Below.refl wa.heap.size wa).alloc (Nat.le_refl _) zS5
        have hTb : Bn (wa.alloc zS5) wa.heap.size zSd := Bn.new wa zSd 147 _ rfl
        have hpb := hpa.on hala
        have hTyb := hTa.on hala
        have hfb := hfa2.alloc zS5
        have hsT : wr.heap.size ≤ wa.heap.size := hfa2.size
        go_upto_region 12 with fail
        obtain ⟨T, hT⟩ : ∃ T, wa.heap.size = T := ⟨_, rfl⟩
        rw [hT] at hTb hsT ⊢
        clear hp9 hf9 hfa hfa2 hTa hala hpa hQ1 hQ3 hT
        generalize wa.alloc zS5 = wb at *
        go_upto_region 13 with (first
          | (go_at_call 32; refine (hN4 _ hpb hTyb).mono ?_; rintro e wc ⟨rfl, hpc, hfc⟩; have hTc := hTb.fx hfc (by omega); obtain ⟨b0, g0⟩ := hTc 0 _ rfl))
        have hTd := hTc.set (i := 0) (by simp) (.string sn)
        have hpd := hpc.far (Y := T) (i := 0) (by omega) (.string sn)
        have hfd := (hfb.trans hfc).setN (N := T) (i := 0) hsT (.string sn)
        have hTyd := hTr.fx hfd
        clear hTb hTc hpb hpc hfb hfc b0 g0 hN4 hTyb
        generalize wc.setCell ⟨T, 0, none⟩ (.string sn) = wd at *
        go_upto_region 14 with (first
          | (go_at_call 31; refine (hM4 _ hpd).mono ?_; rintro e we ⟨⟨u, rfl⟩, hpe, hfe⟩))
        have hTe := hTd.fx hfe (by omega)
        have hfe2 := hfd.trans hfe
        have hTye := hTyd.fx hfe
        clear hTd hpd hfd hfe hTyd hM4
        go_upto_region 15 with (first
          | (go_at_call 120; refine (hX3 _ hpe hTye).mono ?_; rintro e wf ⟨⟨u6, rfl, hx6⟩, hpf, hff⟩; obtain ⟨yk, ym, ys, ya, yl, yc, rfl⟩ := hx6.form; have hTf := hTe.fx hff (by omega); obtain ⟨b1, g1⟩ := hTf 1 _ rfl; obtain ⟨b2, g2⟩ := hTf 2 _ rfl; obtain ⟨b3, g3⟩ := hTf 3 _ rfl; obtain ⟨b4, g4⟩ := hTf 4 _ rfl))
        have hTlt := hTe.lt
        have hTg := (((hTf.set (i := 1) (by simp) (.int .i64 yk)).set (i := 2) (by simp) (.int .i64 ym)).set (i := 3) (by simp) (.string ys)).set (i := 4) (by simp) (.slice ya yl yc)
        have hpg := (((hpf.far (Y := T) (i := 1) (by omega) (.int .i64 yk)).far (Y := T) (i := 2) (by omega) (.int .i64 ym)).far (Y := T) (i := 3) (by omega) (.string ys)).far (Y := T) (i := 4) (by omega) (.slice ya yl yc)
        have hfg := ((((hfe2.trans hff).setN (N := T) (i := 1) hsT (.int .i64 yk)).setN (N := T) (i := 2) hsT (.int .i64 ym)).setN (N := T) (i := 3) hsT (.string ys)).setN (N := T) (i := 4) hsT (.slice ya yl yc)
        have hx7 : rSetD (fun b => wr.heap.size ≤ b) ((((wf.setCell ⟨T, 1, none⟩ (.int .i64 yk)).setCell ⟨T, 2, none⟩ (.int .i64 ym)).setCell ⟨T, 3, none⟩ (.string ys)).setCell ⟨T, 4, none⟩ (.slice ya yl yc)) (sm, sx) [.string sn, .int .i64 yk, .int .i64 ym, .string ys, .slice ya yl yc] := by
          refine ⟨_, _, _, _, by rw [← HSN.out]; rfl, hx6.keep (fun b hb hl => ⟨by omega, ?_⟩)⟩
          rw [Below.heap_setCell _ _ _ _ (fun e => by have e2 : b = T := e; omega), Below.heap_setCell _ _ _ _ (fun e => by have e2 : b = T := e; omega), Below.heap_setCell _ _ _ _ (fun e => by have e2 : b = T := e; omega), Below.heap_setCell _ _ _ _ (fun e => by have e2 : b = T := e; omega)]
        clear hTe hTf hpe hpf hfe2 hff hx6 b1 g1 b2 g2 b3 g3 b4 g4 hX3 hTye hTlt
        generalize (((wf.setCell ⟨T, 1, none⟩ (.int .i64 yk)).setCell ⟨T, 2, none⟩ (.int .i64 ym)).setCell ⟨T, 3, none⟩ (.string ys)).setCell ⟨T, 4, none⟩ (.slice ya yl yc) = wg at *
        have hBg := hB.fx hfg (by omega)
        have hAg := hA.fx hfg (by omega)
        have hOg := hO.fx kp_setD hfg hXL
        have hGg : RdX (fun b => w.heap.size + 1 < b ∧ b < L ∧ b ≠ X) wg gx (.agg #[.int .i64 xk, .int .i64 xm, .string xs, .slice xa xl xc]) := hG.keep (fun b hb hl => ⟨hb, hfg.block b hl (fun e => hb.2.2 (Option.some.inj e))⟩)
        have hTyg := hTr.fx hfg
        have hFg := hF.trans hfg
        have hsg := Nat.le_trans hsz hfg.size
        obtain ⟨k7, j7⟩ := hBg 7 _ rfl
        obtain ⟨t0, _⟩ := hTg 0 _ rfl
        obtain ⟨t1, _⟩ := hTg 1 _ rfl
        obtain ⟨t2, _⟩ := hTg 2 _ rfl
        obtain ⟨t3, _⟩ := hTg 3 _ rfl
        obtain ⟨t4, _⟩ := hTg 4 _ rfl
        go_wp2_with (first
          | (at_builtin; refine wpList_pushB wg rfl _ _ 133 rfl L (fun _ => False) 147 i0 (.agg #[.string ⟨#[]⟩, .int .i64 0, .int .i64 0, .string ⟨#[]⟩, .slice none 0 0]) 5 72 Tryz.underlying133 hi hz0 hz1 hz2 rfl kp_setD (.slice va acc.length vc) acc (sm, sx) [.string sn, .int .i64 yk, .int .i64 ym, .string ys, .slice ya yl yc] wr.heap.size rfl rfl rfl (by simp [Value.oneCell']) hOg hx7 hsz (fun x hx => (hO.lt x hx).2) (fun b hb => hb.elim) (by omega) (by unfold maxLen; omega) hsg ?_; intro vb wb2 hOb hgb hbb hat; have hBb := hBg.blk (hbb.block _ (by omega)); obtain ⟨m7, n7⟩ := hBb 7 _ rfl; obtain ⟨vba, vbc, hvb, hvbl, hvbm⟩ := hOb.form; rw [List.length_append, List.length_singleton] at hvb; subst hvb))
        have hAb := hAg.blk (hbb.block _ (by omega))
        have hpb := hpg.belowB hbb (by omega)
        have hGb : RdX (fun b => w.heap.size + 1 < b ∧ b < L ∧ b ≠ X) wb2 gx (.agg #[.int .i64 xk, .int .i64 xm, .string xs, .slice xa xl xc]) := hGg.keep (fun b hb hl => ⟨hb, hbb.block b hb.2.1⟩)
        have hTyb := hTyg.bel hbb hXL
        have hFb := hFg.andD hbb (by omega)
        have hsb := Nat.le_trans hsg hbb.size
        have hBc := hBb.set (i := 7) (by simp) (.slice vba (acc.length + 1) vbc)
        have hAc := hAb.far (X := w.heap.size + 1) (i := 7) (by omega) (.slice vba (acc.length + 1) vbc)
        have hOc := hOb.set kp_setD (X := w.heap.size + 1) (i := 7) (by omega) (.slice vba (acc.length + 1) vbc)
        have hpc := hpb.far (Y := w.heap.size + 1) (i := 7) (by omega) (.slice vba (acc.length + 1) vbc)
        have hGc : RdX (fun b => w.heap.size + 1 < b ∧ b < L ∧ b ≠ X) (wb2.setCell ⟨w.heap.size + 1, 7, none⟩ (.slice vba (acc.length + 1) vbc)) gx (.agg #[.int .i64 xk, .int .i64 xm, .string xs, .slice xa xl xc]) := hGb.keep (fun b hb hl => ⟨hb, Below.heap_setCell _ _ _ _ (fun e => by have e2 : b = w.heap.size + 1 := e; omega)⟩)
        have hTyc := hTyb.far (Y := w.heap.size + 1) (i := 7) (by omega) (.slice vba (acc.length + 1) vbc)
        have hFc := hFb.setN (N := w.heap.size + 1) (i := 7) (by omega) (.slice vba (acc.length + 1) vbc)
        have hsc : L ≤ (wb2.setCell ⟨w.heap.size + 1, 7, none⟩ (.slice vba (acc.length + 1) vbc)).heap.size := by simpa using hsb
        have hm2 := hpc.left
        have hlc : (acc ++ [(sm, sx)]).length = acc.length + 1 := by simp
        clear hBb hAb hpb hGb hTyb hFb hsb hBg hAg hOg hGg hTyg hFg hsg hTg hpg hfg t0 t1 t2 t3 t4 k7 j7 m7 n7 hgb hbb hat hOb hx7
        go_roundw
        case rel => exact ⟨g', acc ++ [(sm, sx)], q4, _, hpc, HOUT, by omega, by omega, hBc, hOc, hGc, hAc, hTyc, hFc, hsc⟩
        case measure => omega
      | false =>
        rw [hi1] at hQ1
        have hout := ho.out
        rw [sets_noD hi1] at hout
        have HOUT : Hid ((acc, q) = OUT) := hout
        clear hout ho
        go_upto_region 16 with (first
          | (go_at_call 34; refine hQ1.mono ?_; rintro e w9 ⟨rfl, hp9, hf9⟩))
        have hBa := hB.fx hf9 (by omega)
        have hAa := hA.fx hf9 (by omega)
        have hOa := hO.fx kp_setD hf9 hXL
        have hGa : RdX (fun b => w.heap.size + 1 < b) w9 gx (.agg #[.int .i64 xk, .int .i64 xm, .string xs, .slice xa xl xc]) := hG.keep (fun b hb hl => ⟨hb.1, hf9.block b hl (fun e => hb.2.2 (Option.some.inj e))⟩)
        have hFa := hF.trans hf9
        clear hB hA hO hF hf9 hsz hp hQ1 hG hTr
        obtain ⟨b0, g0⟩ := hBa 0 _ rfl
        obtain ⟨b1, g1⟩ := hBa 1 _ rfl
        obtain ⟨b2, g2⟩ := hBa 2 _ rfl
        obtain ⟨b3, g3⟩ := hBa 3 _ rfl
        obtain ⟨b4, g4⟩ := hBa 4 _ rfl
        obtain ⟨b5, g5⟩ := hBa 5 _ rfl
        obtain ⟨b6, g6⟩ := hBa 6 _ rfl
        obtain ⟨b7, g7⟩ := hBa 7 _ rfl
        obtain ⟨b8, g8⟩ := hBa 8 _ rfl
        obtain ⟨b9, g9⟩ := hBa 9 _ rfl
        obtain ⟨a0, k0⟩ := hAa 0 _ rfl
        obtain ⟨a1, k1⟩ := hAa 1 _ rfl
        obtain ⟨a2, k2⟩ := hAa 2 _ rfl
        obtain ⟨a3, k3⟩ := hAa 3 _ rfl
        obtain ⟨a4, k4⟩ := hAa 4 _ rfl
        obtain ⟨a5, k5⟩ := hAa 5 _ rfl
        obtain ⟨a6, k6⟩ := hAa 6 _ rfl
        obtain ⟨a7, k7⟩ := hAa 7 _ rfl
        obtain ⟨a8, k8⟩ := hAa 8 _ rfl
        obtain ⟨a9, k9⟩ := hAa 9 _ rfl
        have hAz := ((((((((((hAa.set (i := 0) (by simp) (.string ev)).set (i := 1) (by simp) (.bool true)).set (i := 2) (by simp) (.int .i64 xk)).set (i := 3) (by simp) (.int .i64 xm)).set (i := 4) (by simp) (.string xs)).set (i := 5) (by simp) (.slice xa xl xc)).set (i := 6) (by simp) (.string tg)).set (i := 7) (by simp) (.slice va acc.length vc)).set (i := 8) (by simp) (.int .i64 ln)).set (i := 9) (by simp) (.int .i64 co))
        have hpz := ((((((((((hp9.far (Y := w.heap.size) (i := 0) hX (.string ev)).far (Y := w.heap.size) (i := 1) hX (.bool true)).far (Y := w.heap.size) (i := 2) hX (.int .i64 xk)).far (Y := w.heap.size) (i := 3) hX (.int .i64 xm)).far (Y := w.heap.size) (i := 4) hX (.string xs)).far (Y := w.heap.size) (i := 5) hX (.slice xa xl xc)).far (Y := w.heap.size) (i := 6) hX (.string tg)).far (Y := w.heap.size) (i := 7) hX (.slice va acc.length vc)).far (Y := w.heap.size) (i := 8) hX (.int .i64 ln)).far (Y := w.heap.size) (i := 9) hX (.int .i64 co))
        have hFz := ((((((((((hFa.setN (N := w.heap.size) (i := 0) (Nat.le_refl _) (.string ev)).setN (N := w.heap.size) (i := 1) (Nat.le_refl _) (.bool true)).setN (N := w.heap.size) (i := 2) (Nat.le_refl _) (.int .i64 xk)).setN (N := w.heap.size) (i := 3) (Nat.le_refl _) (.int .i64 xm)).setN (N := w.heap.size) (i := 4) (Nat.le_refl _) (.string xs)).setN (N := w.heap.size) (i := 5) (Nat.le_refl _) (.slice xa xl xc)).setN (N := w.heap.size) (i := 6) (Nat.le_refl _) (.string tg)).setN (N := w.heap.size) (i := 7) (Nat.le_refl _) (.slice va acc.length vc)).setN (N := w.heap.size) (i := 8) (Nat.le_refl _) (.int .i64 ln)).setN (N := w.heap.size) (i := 9) (Nat.le_refl _) (.int .i64 co))
        have hOz := ((((((((((hOa.set kp_setD (X := w.heap.size) (i := 0) (by omega) (.string ev)).set kp_setD (X := w.heap.size) (i := 1) (by omega) (.bool true)).set kp_setD (X := w.heap.size) (i := 2) (by omega) (.int .i64 xk)).set kp_setD (X := w.heap.size) (i := 3) (by omega) (.int .i64 xm)).set kp_setD (X := w.heap.size) (i := 4) (by omega) (.string xs)).set kp_setD (X := w.heap.size) (i := 5) (by omega) (.slice xa xl xc)).set kp_setD (X := w.heap.size) (i := 6) (by omega) (.string tg)).set kp_setD (X := w.heap.size) (i := 7) (by omega) (.slice va acc.length vc)).set kp_setD (X := w.heap.size) (i := 8) (by omega) (.int .i64 ln)).set kp_setD (X := w.heap.size) (i := 9) (by omega) (.int .i64 co))
        have hGz := hGa.keep (ok' := fun b => w.heap.size ≤ b) (w' := ((((((((((w9.setCell ⟨w.heap.size, 0, none⟩ (.string ev)).setCell ⟨w.heap.size, 1, none⟩ (.bool true)).setCell ⟨w.heap.size, 2, none⟩ (.int .i64 xk)).setCell ⟨w.heap.size, 3, none⟩ (.int .i64 xm)).setCell ⟨w.heap.size, 4, none⟩ (.string xs)).setCell ⟨w.heap.size, 5, none⟩ (.slice xa xl xc)).setCell ⟨w.heap.size, 6, none⟩ (.string tg)).setCell ⟨w.heap.size, 7, none⟩ (.slice va acc.length vc)).setCell ⟨w.heap.size, 8, none⟩ (.int .i64 ln)).setCell ⟨w.heap.size, 9, none⟩ (.int .i64 co))) (fun b hb hl => ⟨by omega, by rw [Below.heap_setCell _ _ _ _ (fun e => by have e2 : b = w.heap.size := e; omega), Below.heap_setCell _ _ _ _ (fun e => by have e2 : b = w.heap.size := e; omega), Below.heap_setCell _ _ _ _ (fun e => by have e2 : b = w.heap.size := e; omega), Below.heap_setCell _ _ _ _ (fun e => by have e2 : b = w.heap.size := e; omega), Below.heap_setCell _ _ _ _ (fun e => by have e2 : b = w.heap.size := e; omega), Below.heap_setCell _ _ _ _ (fun e => by have e2 : b = w.heap.size := e; omega), Below.heap_setCell _ _ _ _ (fun e => by have e2 : b = w.heap.size := e; omega), Below.heap_setCell _ _ _ _ (fun e => by have e2 : b = w.heap.size := e; omega), Below.heap_setCell _ _ _ _ (fun e => by have e2 : b = w.heap.size := e; omega), Below.heap_setCell _ _ _ _ (fun e => by have e2 : b = w.heap.size := e; omega)]⟩)
        clear hBa hAa hp9 hFa hOa hGa
        go_wp2
        refine bodyPost_ret (don_res hAz rfl) rfl ?_
        have hr := HRES.out
        have hoo := HOUT.out
        have hev := HEV.out
        have htg := HT.out
        subst hoo
        subst hr
        subst hev
        subst htg
        exact ⟨⟨_, rfl, _, _, _, _, _, rfl, hGz, (hOz.rd kp_setD).low kp_setD (by omega)⟩, hpz, hFz⟩
end Go.Proofs.YtccmmkhcacglhaaGreatDoor
