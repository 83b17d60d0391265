import Derived.Test.YticniiieijkmmaaDoorWd17
import Derived.Test.YticniiieijkmmaaDoorRows
import Derived.Lib.LaidU8
import Derived.Lib.LaidTab
import Derived.MakeChecks
import Derived.Test.YticniiieijkmmaaDoorWd01
import Derived.ProofKit
import Derived.OpenShut
import Derived.ShutString
import Derived.ChangeOld
import Derived.SizedLaws
import Derived.Below

/- What awake answers. -/
namespace Go.Proofs.YticniiieijkmmaaDoor
open Go.RowKit Go.Lib
set_option linter.unusedSimpArgs false
set_option linter.unusedVariables false
attribute [local go_sem ↓] Go.wp_at_zero Go.wp_at_succ

/-- A chart's six cells. -/
theorem RdC.lit {ok : Nat → Prop} {w : World} {d : Nat} {c : ChG d} {v : Value} (h : RdC ok w d c v) : ∃ nv vn ln co va vc sa sc, v = .agg #[.string nv, .int .i64 vn, .int .i64 ln, .int .i64 co, .slice va c.2.2.1.length vc, .slice sa c.2.2.2.length sc] ∧ RdK ok w 4 (rVar ok w) c.2.2.1 (.slice va c.2.2.1.length vc) ∧ RdK ok w 11 (rSt d ok w) c.2.2.2 (.slice sa c.2.2.2.length sc) := by
  obtain ⟨sv, ss, rfl, h1, h2⟩ := h
  obtain ⟨va, vc, rfl, _⟩ := h1.form
  obtain ⟨sa, sc, rfl, _⟩ := h2.form
  exact ⟨_, _, _, _, va, vc, sa, sc, rfl, h1, h2⟩
/-- The first of some states: its cells. -/
theorem rdSt_at {ok : Nat → Prop} {w : World} {d : Nat} {l : List (St (d + 1))} {a : Option Addr} {n c : Nat} (h : RdK ok w 11 (rSt (d + 1) ok w) l (.slice a n c)) (i : Nat) (hi : i < l.length) : ∃ b off so si, a = some ⟨b, off, none⟩ ∧ ok b ∧ b < w.heap.size ∧ RdK ok w 6 (rOn ok w) (l[i]).1.2.2.2.2 so ∧ RdK ok w 11 (rSt d ok w) (l[i]).2 si ∧ ∀ j u, (hdV (l[i]).1 so si)[j]? = some u → w.cell? ⟨b, off + i * 11 + j, none⟩ = some u := by
  obtain ⟨a', c', e, _, _, hc⟩ := h
  simp only [Value.slice.injEq] at e
  obtain ⟨rfl, _, _⟩ := e
  obtain ⟨b, off, cs, h1, h2, h3, _, ⟨so, si, rfl, h4, h5⟩, h6⟩ := hc i hi
  exact ⟨b, off, so, si, h1, h2, h3, h4, h5, h6⟩
set_option maxRecDepth 100000 in
set_option maxHeartbeats 4000000 in
theorem awakeC (w : World) (hE : Esy w) : Calls Tryd.prog 4 #[] w fun e w' => e = .returned (.bool true) ∧ Below w.heap.size w w' := by
  have h1 := readP_any ⟨awT.toArray⟩ w hE (by decide)
  have e1 : bl ⟨awT.toArray⟩ = awT := rfl
  rw [e1] at h1
  obtain ⟨⟨CC, PP⟩, hR⟩ : ∃ x, readC awT = x := ⟨_, rfl⟩
  have h2 := aw_ok
  have h3 := aw_end
  rw [hR] at h1 h2 h3
  simp only at h2 h3
  subst h2
  simp only at h1
  have hl : CC.2.2.2.length = 1 := by
    have := congrArg List.length h3
    rwa [List.length_map] at this
  have he : ∀ (hh : 0 < CC.2.2.2.length), (CC.2.2.2[0]).1.2.1.2 = true := fun hh => by
    have := congrArg (fun l => l[0]?) h3
    simp only [List.getElem?_map, List.getElem?_eq_getElem hh, Option.map_some, List.getElem?_cons_zero, Option.some.injEq] at this
    exact this
  have h4 : Calls Tryd.prog 5 #[.string ⟨#[99, 104, 97, 114, 116, 32, 97, 32, 49, 32, 123, 32, 115, 116, 97, 116, 101, 32, 98, 32, 123, 32, 101, 110, 100, 32, 125, 32, 125]⟩] w fun e w' => (∃ nv vn ln co va vl vc b off sc, e = .returned (.tuple #[.agg #[.string nv, .int .i64 vn, .int .i64 ln, .int .i64 co, .slice va vl vc, .slice (some ⟨b, off, none⟩) 1 sc], .agg #[.int .i64 0, .int .i64 0], .int .i64 0]) ∧ b < w'.heap.size ∧ w'.cell? ⟨b, off + 4, none⟩ = some (.bool true)) ∧ Below w.heap.size w w' := h1.mono (fun e w' hh => by
    obtain ⟨v, rfl, hv, hb⟩ := hh
    obtain ⟨nv, vn, ln, co, va, vc, sa, sc, rfl, q1, q2⟩ := hv.lit
    obtain ⟨b, off, so, si, rfl, _, hbl, _, _, hc⟩ := rdSt_at q2 0 (by omega)
    refine ⟨⟨nv, vn, ln, co, va, _, vc, b, off, sc, by rw [hl], hbl, ?_⟩, hb⟩
    have := hc 4 _ rfl
    rw [he (by omega), Nat.zero_mul, Nat.add_zero] at this
    exact this)
  clear h1 he hl h3 hR e1
  go_enter Tryd.func4, Tryd.ntmps4
  go_upto_region 2 with (first
    | (go_at_call 5; refine h4.mono ?_; rintro e w1 ⟨⟨nv, vn, ln, co, va, vl, vc, b, off, sc, rfl, hbl, hc⟩, b1⟩))
  have hal := (Below.refl w1.heap.size w1).alloc (Nat.le_refl _) (.cells #[.string nv, .int .i64 vn, .int .i64 ln, .int .i64 co, .slice va vl vc, .slice (some ⟨b, off, none⟩) 1 sc] 28)
  have hal2 := hal.alloc hal.size (.cells #[.int .i64 0, .int .i64 0] 24)
  have hA : Bn ((w1.alloc (.cells #[.string nv, .int .i64 vn, .int .i64 ln, .int .i64 co, .slice va vl vc, .slice (some ⟨b, off, none⟩) 1 sc] 28)).alloc (.cells #[.int .i64 0, .int .i64 0] 24)) w1.heap.size [.string nv, .int .i64 vn, .int .i64 ln, .int .i64 co, .slice va vl vc, .slice (some ⟨b, off, none⟩) 1 sc] := (Bn.new w1 [.string nv, .int .i64 vn, .int .i64 ln, .int .i64 co, .slice va vl vc, .slice (some ⟨b, off, none⟩) 1 sc] 28 _ rfl).on ((Below.refl _ _).alloc (Nat.le_refl _) _)
  have hc2 := (hal2.cell (p := ⟨b, off + 4, none⟩) hbl).trans hc
  have hb2 := b1.trans (hal2.mono b1.size)
  obtain ⟨a5, _⟩ := hA 5 _ rfl
  clear hc hA hal hal2 h4 b1
  generalize (w1.alloc (.cells #[.string nv, .int .i64 vn, .int .i64 ln, .int .i64 co, .slice va vl vc, .slice (some ⟨b, off, none⟩) 1 sc] 28)).alloc (.cells #[.int .i64 0, .int .i64 0] 24) = w2 at *
  go_wp2
  go_ret
  exact ⟨rfl, hb2⟩
end Go.Proofs.YticniiieijkmmaaDoor

/- ChartDeep's walk. -/
namespace Go.Proofs.YticniiieijkmmaaDoor
open Go.RowKit Go.Lib
set_option linter.unusedSimpArgs false
set_option linter.unusedVariables false
attribute [local go_sem ↓] Go.wp_at_zero Go.wp_at_succ

theorem bl_app (a b : ByteArray) : bl (a ++ b) = bl a ++ bl b := by
  unfold bl
  rw [ByteArray.data_append, Array.toList_append]
theorem chn_len {d : Nat} {l : List (St d)} (h : l.length = 1) : 1 ≤ chn d l := by
  cases d with
  | zero => cases l with
    | nil => simp at h
    | cons x t => exact Empty.elim x
  | succ d' => cases l with
    | nil => simp at h
    | cons x t =>
      have : t = [] := List.eq_nil_of_length_eq_zero (by simpa using h)
      subst this
      show 1 ≤ 1 + _
      omega
theorem chn_zero {d : Nat} {l : List (St d)} (h : l.length ≠ 1) : chn d l = 0 := by
  cases d with
  | zero => rfl
  | succ d' => cases l with
    | nil => rfl
    | cons x t => cases t with
      | nil => simp at h
      | cons y t => rfl
/-- States in memory, of whatever depth, whose chain is m. -/
def RdN (w : World) (v : Value) (m : Nat) : Prop := ∃ d l, RdK (fun _ => True) w 11 (rSt d (fun _ => True) w) l v ∧ chn d l = m
theorem RdN.keep {w w' : World} {v : Value} {m : Nat} (h : RdN w v m) (hb : Below w.heap.size w w') : RdN w' v m := by
  obtain ⟨d, l, h1, h2⟩ := h
  exact ⟨d, l, h1.stay (kp_st d) (fun b _ hl => ⟨trivial, hb.block b hl⟩), h2⟩
theorem RdN.open {w : World} {v : Value} {m : Nat} (h : RdN w v m) : ∃ a n c, v = .slice a n c ∧ ((n ≠ 1 ∧ m = 0) ∨ (n = 1 ∧ ∃ b off si m', a = some ⟨b, off, none⟩ ∧ w.cell? ⟨b, off + 10, none⟩ = some si ∧ RdN w si m' ∧ m = 1 + m')) := by
  obtain ⟨d, l, h1, h2⟩ := h
  obtain ⟨a, c, rfl, _⟩ := h1.form
  refine ⟨a, l.length, c, rfl, ?_⟩
  by_cases hl : l.length = 1
  · refine .inr ⟨hl, ?_⟩
    cases d with
    | zero => cases l with
      | nil => simp at hl
      | cons x t => exact Empty.elim x
    | succ d' => cases l with
      | nil => simp at hl
      | cons x t =>
        have : t = [] := List.eq_nil_of_length_eq_zero (by simpa using hl)
        subst this
        obtain ⟨b, off, so, si, h3, _, _, _, h4, h5⟩ := rdSt_at h1 0 (by simp)
        have := h5 10 _ rfl
        rw [Nat.zero_mul, Nat.add_zero] at this
        exact ⟨b, off, si, _, h3, this, ⟨d', _, h4, rfl⟩, by rw [← h2]; rfl⟩
  · exact .inl ⟨hl, by rw [← h2]; exact chn_zero hl⟩
set_option maxRecDepth 100000 in
set_option maxHeartbeats 8000000 in
theorem chartDeep_any {w : World} (hE : Esy w) (n : Int) (hn : (Lit.int .u8 n).wf = true) :
    Calls Tryd.prog 3 #[.int .u8 n] w fun e w' => e = .returned (.bool true) ∧ Below w.heap.size w w' := by
  have hAw := awakeC w hE
  have hn2 : 0 ≤ n ∧ n ≤ 255 := by
    simp [Lit.wf, IntKind.min, IntKind.max, IntKind.bits, IntKind.signed] at hn
    omega
  obtain ⟨hn3, hn4⟩ := hn2
  obtain ⟨k, hk1, hk2, hkn⟩ : ∃ k : Nat, 1 ≤ k ∧ k ≤ 10 ∧ 1 + n % 10 = (k : Int) := ⟨(1 + n % 10).toNat, by omega, by omega, by omega⟩
  have hRd := fun (s : ByteArray) w1 (hE1 : Esy w1) (hs : s.size ≤ 140737488351232) => readP_any s w1 hE1 hs
  obtain ⟨hd1, hd2⟩ := dp_all hk1 hk2
  go_enter Tryd.func3, Tryd.ntmps3
  go_upto_region 5 with (first
    | (go_at_call 4; refine hAw.mono ?_; rintro e w1 ⟨rfl, b1⟩))
  have hE1 := hE.on b1
  have HD : Hid ((k ≤ 6 → (readC (dpT k)).2 = ((0, 0), 0) ∧ chn 7 (readC (dpT k)).1.2.2.2 = k) ∧ (6 < k → (readC (dpT k)).2 = ((1, 73), 13))) := ⟨hd1, hd2⟩
  clear hkn hAw hn hE hn3 hn4 hd1 hd2
  go_wp2
  go_loop [4, 5, 18] (fun s e i => ∃ (j : Nat) (S E : ByteArray), j ≤ k ∧ i = .int .i64 (j : Int) ∧ s = .string S ∧ e = .string E ∧ Hid (bl S = dpA ++ rp j dpB) ∧ Hid (bl E = [125] ++ rp j [125])) (fun _ _ i => k - (RowKit.intOf i).toNat)
  case atStart => exact ⟨0, _, _, Nat.zero_le _, rfl, rfl, rfl, rfl, rfl⟩
  case round =>
    obtain ⟨j, S, E, hj, rfl, rfl, rfl, hS, hEE⟩ := hrel
    have hSs : S.size = 12 + j * 10 := by rw [← bl_length, hS.out, List.length_append, rp_len]; rfl
    have hEs : E.size = 1 + j := by rw [← bl_length, hEE.out, List.length_append, rp_len]; simp
    by_cases hlt : j < k
    · have i1 : (j : Int) < (k : Int) := by omega
      have i2 : Hid (bl (S ++ ⟨#[115, 116, 97, 116, 101, 32, 98, 32, 123, 32]⟩) = dpA ++ rp (j + 1) dpB) := by show bl _ = _; rw [bl_app, hS.out, List.append_assoc]; rfl
      have i3 : Hid (bl (E ++ ⟨#[125]⟩) = [125] ++ rp (j + 1) [125]) := by show bl _ = _; rw [bl_app, hEE.out, List.append_assoc]; rfl
      have i4 : S.size + 10 ≤ 9223372036854775807 := by omega
      have i5 : E.size + 1 ≤ 9223372036854775807 := by omega
      go_wp2
      go_round
      case rel => exact ⟨j + 1, _, _, hlt, by go_num, rfl, rfl, i2, i3⟩
      case measure => simp [RowKit.intOf]; omega
    · have i1 : ¬ (j : Int) < (k : Int) := by omega
      obtain rfl : j = k := by omega
      have hT : Hid (bl (S ++ E) = dpT j) := by show bl _ = _; rw [bl_app, hS.out, hEE.out]; rfl
      have i4 : S.size + E.size ≤ 9223372036854775807 := by omega
      have hR := hRd (S ++ E) w1 hE1 (by rw [ByteArray.size_append]; omega)
      rw [hT.out] at hR
      obtain ⟨⟨CC, ⟨pl, pc⟩, er⟩, hRR⟩ : ∃ x, readC (dpT j) = x := ⟨_, rfl⟩
      obtain ⟨hd1, hd2⟩ := HD.out
      rw [hRR] at hR hd1 hd2
      simp only at hR hd1 hd2
      have hR2 : Calls Tryd.prog 5 #[.string (S ++ E)] w1 fun e w' => (∃ nv vn ln co va vl vc sv, e = .returned (.tuple #[.agg #[.string nv, .int .i64 vn, .int .i64 ln, .int .i64 co, .slice va vl vc, sv], .agg #[.int .i64 pl, .int .i64 pc], .int .i64 er]) ∧ RdN w' sv (chn 7 CC.2.2.2) ∧ ∃ a n c, sv = .slice a n c) ∧ Below w1.heap.size w1 w' := hR.mono (fun e w' hh => by
        obtain ⟨v, rfl, hv, hb⟩ := hh
        obtain ⟨nv, vn, ln, co, va, vc, sa, sc, rfl, q1, q2⟩ := hv.lit
        exact ⟨⟨nv, vn, ln, co, va, _, vc, _, rfl, ⟨7, _, q2.stay (kp_st 7) (fun b _ _ => ⟨trivial, rfl⟩), rfl⟩, _, _, _, rfl⟩, hb⟩)
      clear hRd HD hR hT hS hEE hSs hEs hE1 hRR
      by_cases hk6 : j ≤ 6
      · obtain ⟨h1, h2⟩ := hd1 hk6
        simp only [Prod.mk.injEq] at h1
        obtain ⟨⟨rfl, rfl⟩, rfl⟩ := h1
        rw [h2] at hR2
        have i5 : (j : Int) ≤ 6 := by omega
        clear hd1 hd2 h2
        go_wp2_with (first
          | (go_at_call 5; refine hR2.mono ?_; rintro e w2 ⟨⟨nv, vn, ln, co, va, vl, vc, sv, rfl, hN, a, n2, c, rfl⟩, b2⟩))
        have hal := (Below.refl w2.heap.size w2).alloc (Nat.le_refl _) (.cells #[.string nv, .int .i64 vn, .int .i64 ln, .int .i64 co, .slice va vl vc, .slice a n2 c] 28)
        have hal2 := hal.alloc hal.size (.cells #[.int .i64 0, .int .i64 0] 24)
        have hN2 := hN.keep hal2
        have hb2 := (b1.trans (b2.mono b1.size)).trans (hal2.mono (Nat.le_trans b1.size b2.size))
        clear hN hal hal2 hR2 b2 b1
        generalize (w2.alloc (.cells #[.string nv, .int .i64 vn, .int .i64 ln, .int .i64 co, .slice va vl vc, .slice a n2 c] 28)).alloc (.cells #[.int .i64 0, .int .i64 0] 24) = w3 at *
        go_loop [9, 10] (fun dv lv => ∃ (i m : Nat), dv = .int .i64 (i : Int) ∧ RdN w3 lv m ∧ i + m = j) (fun dv _ => j - (RowKit.intOf dv).toNat)
        case atStart => exact ⟨0, j, rfl, hN2, by omega⟩
        case round =>
          clear hN2
          obtain ⟨i, m, rfl, hN, him⟩ := hrel
          obtain ⟨a3, n3, c3, rfl, hcase⟩ := hN.open
          rcases hcase with ⟨q1, q2⟩ | ⟨q1, b, off, si, m', rfl, q2, q3, q4⟩
          · have i6 : ((n3 : Int) == 1) = false := beq_eq_false_iff_ne.2 (by omega)
            have i7 : ((i : Int) == (j : Int)) = true := by simp; omega
            go_wp2
            go_ret
            exact ⟨rfl, hb2⟩
          · subst q1
            obtain ⟨a4, n4, c4, rfl, _⟩ := q3.open
            go_wp2
            go_round
            case rel => exact ⟨i + 1, m', by go_num, q3, by omega⟩
            case measure => simp [RowKit.intOf]; omega
      · have h1 := hd2 (by omega)
        simp only [Prod.mk.injEq] at h1
        obtain ⟨⟨rfl, rfl⟩, rfl⟩ := h1
        have i5 : ¬ (j : Int) ≤ 6 := by omega
        clear hd1 hd2
        go_wp2_with (first
          | (go_at_call 5; refine hR2.mono ?_; rintro e w2 ⟨⟨nv, vn, ln, co, va, vl, vc, sv, rfl, hN, a, n2, c, rfl⟩, b2⟩))
        have hal := (Below.refl w2.heap.size w2).alloc (Nat.le_refl _) (.cells #[.string nv, .int .i64 vn, .int .i64 ln, .int .i64 co, .slice va vl vc, .slice a n2 c] 28)
        have hal2 := hal.alloc hal.size (.cells #[.int .i64 1, .int .i64 73] 24)
        have hA : At ((w2.alloc (.cells #[.string nv, .int .i64 vn, .int .i64 ln, .int .i64 co, .slice va vl vc, .slice a n2 c] 28)).alloc (.cells #[.int .i64 1, .int .i64 73] 24)) (w2.heap.size + 1) (.int .i64 1) (.int .i64 73) := At.new _ _ _ _ _ (by simp)
        have hb2 := (b1.trans (b2.mono b1.size)).trans (hal2.mono (Nat.le_trans b1.size b2.size))
        obtain ⟨y0, y1, y2, y3⟩ := id hA
        clear hN hal hal2 hR2 b2 b1 hA
        generalize (w2.alloc (.cells #[.string nv, .int .i64 vn, .int .i64 ln, .int .i64 co, .slice va vl vc, .slice a n2 c] 28)).alloc (.cells #[.int .i64 1, .int .i64 73] 24) = w3 at *
        go_ret
        exact ⟨rfl, hb2⟩
end Go.Proofs.YticniiieijkmmaaDoor

/- What strconv.ErrSyntax holds, by the row's list. -/
namespace Go.Proofs.YticniiieijkmmaaDoor
open Go.RowKit Go.Lib
set_option linter.unusedVariables false
theorem iface_of {P : Program} {w : World} {t : TypeId} {fuel : Nat} {cs : List Value} {name : String} {d : DataW Unit} {p : List MemPlace} (ht : (P.underlying t).map (fun u => match u with | .interface _ => true | _ => false) = some true) (h : DataW.trod (fun _ => ()) P w 0 (fun _ => true) false fuel t cs = some (.iface name d, p)) : ∃ u v, cs = [.iface u v] := by
  cases fuel with
  | zero => simp [DataW.trod] at h
  | succ fuel =>
    unfold DataW.trod at h
    cases hu : P.underlying t with
    | none => rw [hu] at ht; simp at ht
    | some u =>
      rw [hu] at ht h
      cases u <;> simp at ht
      split at h <;> simp_all
theorem esy_of {w : World} {L : List (String × DataW Unit)} (h : laidMetH Tryd.prog L w) (hp : (L.all fun x => x.2.handleName?.isNone) = true) (m : ("strconv.ErrSyntax", Rows.laid_strconv_ErrSyntax) ∈ L) : Esy w := by
  rw [MakeChecks.laidMetH_plain _ _ _ hp] at h
  obtain ⟨g, t, cs, fuel, p, hg, ht, hvar, hd⟩ := Lib.laidMet.reads h m
  have hg2 : Tryd.prog.globalNamed "strconv.ErrSyntax" = some (renA.g 15) := by kernel_rfl
  rw [hg] at hg2
  obtain rfl := Option.some.inj hg2
  have ht2 : ((Tryd.prog.globals[renA.g 15]?).map (·.type)).bind (fun t => (Tryd.prog.underlying t).map (fun u => match u with | .interface _ => true | _ => false)) = some true := by kernel_rfl
  rw [ht, Option.bind_some] at ht2
  obtain ⟨u, v, hcs⟩ := iface_of ht2 hd
  have : cs = #[.iface u v] := by cases cs; simp at hcs; rw [hcs]
  subst this
  unfold World.var? at hvar
  rw [hg, Option.bind_some] at hvar
  refine ⟨.iface u v, ?_, .inr ⟨u, v, rfl⟩⟩
  cases hh : w.heap[renA.g 15]? with
  | none => rw [hh] at hvar; simp at hvar
  | some o =>
    rw [hh] at hvar
    cases o with
    | cells cs e f =>
      simp only [Option.some.injEq] at hvar
      subst hvar
      exact (cell_of_row w _ 0 _ _ _ hh).trans rfl
    | _ => simp at hvar
end Go.Proofs.YticniiieijkmmaaDoor

/- An argument that is a slice of bytes, opened: the bytes that it reads as, each from 0 to 255, and their number within the form's reach. -/
namespace Go.Proofs.YticniiieijkmmaaDoor
open Go.ChangeShapes Go.WideShapes Go.ChangeAt Go.RowKit

/-- What the datum of a slice of len elements is. -/
def IsSlice {H : Type} (d : DataW H) (len : Nat) : Prop := (d = .nil ∧ len = 0) ∨ ∃ elems spare, d = .slice elems spare ∧ elems.length = len

theorem open_bytes {H : Type} {enc : TypeId × Value → H} {P : Program} {W : World} {t e : TypeId} {a : Option Addr} {len cap : Nat} {d : DataW H} {p : List MemPlace}
    (ht : P.underlying t = some (.slice e)) (he : P.underlying e = some (.int .u8)) (hc : P.cellsOf e = 1) (h : DataW.Trod enc P W 0 (fun _ => true) true t (.slice a len cap) d p) :
    ∃ bs, Rd W (.slice a len cap) bs ∧ (∀ x ∈ bs, 0 ≤ x ∧ x ≤ 255) ∧ bs.length = len ∧ IsSlice d len := by
  obtain ⟨fuel, hf⟩ := h
  rcases open_ints ht he hc hf with ⟨hcs, hx⟩ | ⟨x, l, c, zs, hcs, _, hl, hm, hz, hx, hcell, hwz⟩
  · simp [Value.cells] at hcs
    obtain ⟨rfl, rfl, rfl⟩ := hcs
    simp only [Prod.mk.injEq] at hx
    exact ⟨[], ⟨none, 0, rfl, by simp, by simp [maxLen], by simp, fun x hx => by cases hx⟩, by simp, rfl, .inl ⟨hx.1, rfl⟩⟩
  · simp [Value.cells] at hcs
    obtain ⟨rfl, rfl, rfl⟩ := hcs
    simp only [Prod.mk.injEq] at hx
    have hzc : zs.length = cap := by simpa using hz
    have hlen : (zs.take len).length = len := by rw [List.length_take]; omega
    refine ⟨zs.take len, ⟨some x, cap, by rw [hlen], by omega, hm, by simp, ?_⟩, ?_, hlen, .inr ⟨_, _, hx.1, by simp [lits]; omega⟩⟩
    · intro y hy i hi
      obtain rfl := Option.some.inj hy
      rw [hlen] at hi
      rw [hcell i (by omega)]
      simp [List.getD, hi]
    · intro n hn
      have := hwz n (List.mem_of_mem_take hn)
      simpa [Lit.wf, IntKind.min, IntKind.max, IntKind.signed, IntKind.bits] using this

theorem sized_bytes {H : Type} {P : Program} {ts : List TypeId} {ds : List (DataW H)} (h : (DataW.weightsEach P ts ds).all (· ≤ reachBytes) = true) {j : Nat} {t e : TypeId} {d : DataW H} {len : Nat}
    (ht : ts[j]? = some t) (hd : ds[j]? = some d) (hu : P.underlying t = some (.slice e)) (hb : P.bytesOf e = 1) (hs : IsSlice d len) : len ≤ 140737488351232 := by
  rcases hs with ⟨_, rfl⟩ | ⟨elems, spare, rfl, hl⟩
  · omega
  · have := sized_slice h ht hd hu
    rw [hb] at this
    simp only [reachBytes] at this
    omega

theorem sized_text {H : Type} {P : Program} {ts : List TypeId} {ds : List (DataW H)} (h : (DataW.weightsEach P ts ds).all (· ≤ reachBytes) = true) {j : Nat} {t : TypeId} {s : ByteArray}
    (ht : ts[j]? = some t) (hd : ds[j]? = some (.lit (.string s.data.toList))) : s.size ≤ 140737488351232 := by
  have := sized_string h ht hd
  simp only [reachBytes, Array.length_toList] at this
  exact this

end Go.Proofs.YticniiieijkmmaaDoor
