
/- What the program's Find and Inner answer. -/
import Derived.Test.YtdekboacjjpjeaaTrT
namespace Go.Proofs.Ytdekboacjjpjeaa
open Go.RowKit Go.Lib
set_option linter.unusedSimpArgs false
set_option linter.unusedVariables false
attribute [local go_sem ↓] Go.wp_at_zero Go.wp_at_succ

theorem wpList_pushK {α : Type} {P : Program} (w : World) {ops : Array Oper} {rest : List Oper} {o : Oper} {a : Act} {Q : Exit → Act → World → Prop} (hgd : o.guard = none) (s x : Operand) (t : TypeId)
    (ho : o.op = .call { callee := .builtin .append, args := #[s, x], argTypes := #[t, t] })
    (base : Nat) (e : TypeId) (i : TypeInfo) (z : Value) (k bytes : Nat) (ht : P.underlying t = some (.slice e)) (hi : P.info? e = some i) (hz : i.zero = some z)
    (hsize : i.size = k) (hby : i.bytes = bytes) (hzs : z.cells.size = k) {R : (Nat → Prop) → World → α → List Value → Prop} (hR : Kp R)
    (v : Value) (l : List α) (p : α) (cs : List Value) (lo : Nat) (hs : a.eval s = v) (hx : a.eval x = .slice (some ⟨w.heap.size, 0, none⟩) 1 1) (hk : cs.length = k) (h1 : ∀ u ∈ cs, u.oneCell' = true)
    (hown : OwnK w base e k R v l) (hp : R (fun b => lo ≤ b) w p cs) (hlo : base ≤ lo) (hv : ∀ x, v.ownBlock = some x → x < lo) (hroom : (l.length + 1 + (l.length + 1) / 4 + 192) * bytes ≤ 281474976710656)
    (h63 : l.length + 1 ≤ maxLen) (hbase : base ≤ w.heap.size)
    (h : ∀ v' w', OwnK w' base e k R v' (l ++ [p]) → (w.alloc (.cells cs.toArray e)).grownBy w' v.ownBlock → Below base w w' → wpList P ops Q rest (a.put o.dst v') w') :
    wpList P ops Q (o :: rest) a (w.alloc (.cells cs.toArray e)) := by
  have hal : Below w.heap.size w (w.alloc (.cells cs.toArray e)) := (Below.refl _ _).alloc (Nat.le_refl _) _
  obtain ⟨qs, ho1, hl1, hr1⟩ := hown.on hR hal
  refine wpList_append_at _ hgd s x t t ho base e i z k bytes ht hi hz hsize hby hzs v l.length qs.flatten hs ho1 _ 1 cs hx (src_row ht w cs hk h1) 1 (.inr hroom) (Nat.le_refl _) h63 (Nat.le_trans hbase hal.size) ?_
  intro v' w' hown' hg hat
  refine h v' w' (OwnK.snoc hR hk rfl ho1 hl1 hr1 hown' hg hat (hR hp (fun b hb hlt => ⟨hb, hal.block b hlt⟩)) hlo hv) hg ?_
  exact ((Below.refl base w).alloc hbase _).grown hg (Nat.le_trans hbase hal.size) (fun k hk => (World.ownsRow.lt ho1 k hk).1)
theorem OwnK.blk {α : Type} {w : World} {base e k : Nat} {R : (Nat → Prop) → World → α → List Value → Prop} {v : Value} {l : List α} (h : OwnK w base e k R v l) : ∀ x, v.ownBlock = some x → base ≤ x ∧ x < w.heap.size := by
  obtain ⟨qs, ho, _⟩ := h
  exact ownsRow_lt ho
/-- A number in a row of them. -/
def rInt (ok : Nat → Prop) (w : World) (x : Int) (cs : List Value) : Prop := cs = [.int .i64 x]
theorem kp_int : Kp rInt := fun _ _ _ _ _ _ h _ => h
abbrev RdZs (ok : Nat → Prop) (w : World) (l : List Int) (v : Value) : Prop := RdK ok w 1 (rInt ok w) l v
theorem Try.infoIntT : (Try.prog.info? 3).map (fun i => (i.zero, i.size, i.bytes)) = some (some (.int .i64 0), 1, 8) := by kernel_rfl
theorem Try.infoNdP : (Try.prog.info? 70).map (fun i => (i.zero, i.size, i.bytes)) = some (some (.agg #[.string ⟨#[]⟩, .int .i64 0, .int .i64 0, .int .i64 0, .bool false, .bool false, .bool false]), 7, 48) := by kernel_rfl
/-- The first one of that name, of f from j on. -/
def fdF (l : List Nd) (s : ByteArray) : Nat → Nat → Int
  | 0, _ => -1
  | f + 1, j => if (nAt l j).1 = s then (j : Int) else fdF l s f (j + 1)
def fdB (l : List Nd) (s : ByteArray) : Int := if fmB l then fdF l s l.length 0 else -1
set_option maxHeartbeats 1000000 in
theorem find1_any {w : World} {X : Nat} (n s : ByteArray) (x1 x2 x3 : Int) (x4 x5 x6 : Bool) (h : w.cell? ⟨X, 0, none⟩ = some (.string s)) :
    Calls Try.prog 38 #[.agg #[.string n, .int .i64 x1, .int .i64 x2, .int .i64 x3, .bool x4, .bool x5, .bool x6], .pointer (some ⟨X, 0, none⟩)] w fun e w' => e = .returned (.bool (decide (n = s))) ∧ Below w.heap.size w w' := by
  have hlt := World.block_lt_of_cell? w _ h
  have hlt' : X < w.heap.size := hlt
  have hb := (Below.refl w.heap.size w).alloc (Nat.le_refl _) (.cells #[.string n, .int .i64 x1, .int .i64 x2, .int .i64 x3, .bool x4, .bool x5, .bool x6] 70)
  have h2 := (hb.cell (p := ⟨X, 0, none⟩) hlt').trans h
  have e : decide (n = s) = (n.toList == s.toList) := by
    rw [Bool.eq_iff_iff, decide_eq_true_eq, beq_iff_eq]
    constructor
    · intro h; rw [h]
    · intro h
      have h' : n.data.toList = s.data.toList := by rw [← ByteArray.toList_eq, ← ByteArray.toList_eq]; exact h
      exact ByteArray.ext (Array.toList_inj.1 h')
  rw [e]
  go_enter Try.func38, Try.ntmps38
  go_wp2
  go_ret
  exact ⟨rfl, hb⟩
set_option maxRecDepth 100000 in
set_option maxHeartbeats 4000000 in
theorem idxN_any {ok : Nat → Prop} {w : World} {l : List Nd} {v : Value} {X : Nat} {s : ByteArray} (h : RdNd ok w l v) (h40 : l.length ≤ 40) (hX : w.cell? ⟨X, 0, none⟩ = some (.string s)) :
    Calls Try.prog 37 #[v, .func (.func 38) #[] #[.pointer (some ⟨X, 0, none⟩)]] w fun e w' => e = .returned (.int .i64 (fdF l s l.length 0)) ∧ Below w.heap.size w w' := by
  obtain ⟨a, cap, rfl, hlc, hcm⟩ := h.form
  unfold maxLen at hcm
  have hXl : X < w.heap.size := World.block_lt_of_cell? w _ hX
  have HC := hidOf h
  have HX := hidOf hX
  obtain ⟨V, hV⟩ : ∃ V, fdF l s l.length 0 = V := ⟨_, rfl⟩
  rw [hV]
  obtain ⟨n, hn⟩ : ∃ n, l.length = n := ⟨_, rfl⟩
  rw [hn] at hlc h40 hV ⊢
  have HN := hidOf hn
  have HV : Hid (fdF l s (n - 0) 0 = V) := hV
  clear h hX hn hV
  go_enter Try.func37, Try.ntmps37
  go_wp2
  go_loopw [8] (fun ix wr => ∃ (j : Nat), j ≤ n ∧ ix = .int .i64 (j : Int) ∧ Hid (fdF l s (n - j) j = V) ∧ Below w.heap.size w wr) (fun ix _ => n - (RowKit.intOf ix).toNat)
  case atStart => exact ⟨0, Nat.zero_le _, rfl, HV, Below.refl _ _⟩
  case round =>
    obtain ⟨j, hj, rfl, HI, hb⟩ := hrel
    by_cases hlt : j < n
    · obtain ⟨b, off, rfl, hbl, c0, c1, c2, c3, c4, c5, c6⟩ := nd_at HC.out j (by rw [HN.out]; exact hlt)
      replace c0 := (hb.cell (p := ⟨b, off + j * 7, none⟩) hbl).trans c0
      replace c1 := (hb.cell (p := ⟨b, off + j * 7 + 1, none⟩) hbl).trans c1
      replace c2 := (hb.cell (p := ⟨b, off + j * 7 + 2, none⟩) hbl).trans c2
      replace c3 := (hb.cell (p := ⟨b, off + j * 7 + 3, none⟩) hbl).trans c3
      replace c4 := (hb.cell (p := ⟨b, off + j * 7 + 4, none⟩) hbl).trans c4
      replace c5 := (hb.cell (p := ⟨b, off + j * 7 + 5, none⟩) hbl).trans c5
      replace c6 := (hb.cell (p := ⟨b, off + j * 7 + 6, none⟩) hbl).trans c6
      have HI2 : Hid ((if (nAt l j).1 = s then (j : Int) else fdF l s (n - (j + 1)) (j + 1)) = V) := by
        have := HI.out
        have e : n - j = (n - (j + 1)) + 1 := by omega
        rw [e, fdF] at this
        exact this
      have hcall := find1_any (nAt l j).1 s (nP l j) (nD l j) (nB l j) (nAt l j).2.2.1 (nAt l j).2.2.2.1 (nL l j) ((hb.cell (p := ⟨X, 0, none⟩) hXl).trans HX.out)
      generalize (nAt l j).1 = x0 at *
      generalize nP l j = x1 at *
      generalize nD l j = x2 at *
      generalize nB l j = x3 at *
      generalize (nAt l j).2.2.1 = x4 at *
      generalize (nAt l j).2.2.2.1 = x5 at *
      generalize nL l j = x6 at *
      have i1 : (j : Int) < (n : Int) := by omega
      have i2 : (0 : Int) ≤ (j : Int) := by omega
      by_cases he : x0 = s
      · rw [decide_eq_true he] at hcall
        have hVj : V = (j : Int) := by rw [← HI2.out, if_pos he]
        clear he
        subst hVj
        go_wp2_with (first | (go_at_call 38; refine hcall.mono ?_; rintro e w1 ⟨rfl, b1⟩) | fail)
        go_ret
        exact ⟨rfl, hb.trans (b1.mono hb.size)⟩
      · rw [decide_eq_false he] at hcall
        have HV2 : Hid (fdF l s (n - (j + 1)) (j + 1) = V) := by have := HI2.out; rw [if_neg he] at this; exact this
        clear he
        go_wp2_with (first | (go_at_call 38; refine hcall.mono ?_; rintro e w1 ⟨rfl, b1⟩) | fail)
        go_roundw
        case rel => exact ⟨j + 1, hlt, by go_num, HV2, hb.trans (b1.mono hb.size)⟩
        case measure => simp [RowKit.intOf]; omega
    · have i1 : ¬ (j : Int) < (n : Int) := by omega
      have hV : V = -1 := by
        rw [← HI.out]
        have : n - j = 0 := by omega
        rw [this]; rfl
      subst hV
      go_wp2
      go_ret
      exact ⟨rfl, hb⟩
theorem fm_40 {l : List Nd} (h : fmB l = true) : l.length ≤ 40 := (fmB_fm h).1
set_option maxRecDepth 100000 in
set_option maxHeartbeats 4000000 in
theorem find_any {ok : Nat → Prop} {w : World} {l : List Nd} {v : Value} (h : RdNd ok w l v) (s : ByteArray) :
    Calls Try.prog 19 #[v, .string s] w fun e w' => e = .returned (.int .i64 (fdB l s)) ∧ Below w.heap.size w w' := by
  obtain ⟨a, cap, rfl, hlc, hcm⟩ := h.form
  have hb0 := (Below.refl w.heap.size w).alloc (Nat.le_refl _) (.cells #[.string s] 9)
  have hfm := formed_any (h.stay kp_nd (ok' := ok) (fun k hk hl => ⟨hk, hb0.block k hl⟩))
  have hs0 := (Bn.new w [.string s] 9 _ rfl 0 _ rfl).1
  unfold fdB
  cases hf : fmB l with
  | false =>
    rw [hf] at hfm
    rw [if_neg (by simp)]
    clear hf
    go_enter Try.func19, Try.ntmps19
    go_wp2_with (first | (go_at_call 13; refine hfm.mono ?_; rintro e w1 ⟨rfl, b1⟩) | fail)
    go_ret
    exact ⟨rfl, hb0.trans (b1.mono hb0.size)⟩
  | true =>
    have h40 := fm_40 hf
    rw [hf] at hfm
    rw [if_pos rfl]
    clear hf
    have hix := fun w1 (b1 : Below (w.alloc (.cells #[.string s] 9)).heap.size (w.alloc (.cells #[.string s] 9)) w1) => idxN_any (w := w1) (X := w.heap.size) (s := s) (h.stay kp_nd (ok' := ok) (w' := w1) (fun k hk hl => ⟨hk, (b1.block k (Nat.lt_of_lt_of_le hl hb0.size)).trans (hb0.block k hl)⟩)) h40 ((b1.cell (p := ⟨w.heap.size, 0, none⟩) (by simp)).trans hs0)
    go_enter Try.func19, Try.ntmps19
    go_wp2_with (first | (go_at_call 13; refine hfm.mono ?_; rintro e w1 ⟨rfl, b1⟩) | (go_at_call 37; refine (hix _ b1).mono ?_; rintro e w2 ⟨rfl, b2⟩) | fail)
    go_ret
    exact ⟨rfl, (hb0.trans (b1.mono hb0.size)).trans (b2.mono (Nat.le_trans hb0.size b1.size))⟩
/-- The numbers of those right in i. -/
def inF (l : List Nd) (i : Int) (j : Nat) : List Int := ((List.range j).filter (fun k => decide (nP l k = i))).map (fun k : Nat => (k : Int))
theorem inF_succ (l : List Nd) (i : Int) (j : Nat) : inF l i (j + 1) = inF l i j ++ (if nP l j = i then [(j : Int)] else []) := by
  unfold inF
  rw [List.range_succ, List.filter_append, List.map_append]
  by_cases h : nP l j = i
  · rw [if_pos h]; simp [h]
  · rw [if_neg h]; simp [h]
theorem inF_len (l : List Nd) (i : Int) (j : Nat) : (inF l i j).length ≤ j := by
  unfold inF
  rw [List.length_map]
  exact Nat.le_trans (List.length_filter_le _ _) (by simp)
def inB (l : List Nd) (i : Int) : List Int := if fmB l then inF l i l.length else []
set_option maxRecDepth 100000 in
set_option maxHeartbeats 4000000 in
theorem inner_any {ok : Nat → Prop} {w : World} {l : List Nd} {v : Value} (h : RdNd ok w l v) (i : Int) :
    Calls Try.prog 26 #[v, .int .i64 i] w fun e w' => ∃ u, e = .returned u ∧ RdZs (fun b => w.heap.size ≤ b) w' (inB l i) u ∧ Below w.heap.size w w' := by
  obtain ⟨a, cap, rfl, hlc, hcm⟩ := h.form
  unfold maxLen at hcm
  have hfm := formed_any h
  unfold inB
  cases hf : fmB l with
  | false =>
    rw [hf] at hfm
    rw [if_neg (by simp)]
    clear hf
    go_enter Try.func26, Try.ntmps26
    go_wp2_with (first | (go_at_call 13; refine hfm.mono ?_; rintro e w1 ⟨rfl, b1⟩) | fail)
    go_ret
    exact ⟨_, rfl, rdK_none _ _ _ _, b1⟩
  | true =>
    have h40 := fm_40 hf
    rw [hf] at hfm
    rw [if_pos rfl]
    clear hf
    have HC := hidOf h
    obtain ⟨n, hn⟩ : ∃ n, l.length = n := ⟨_, rfl⟩
    rw [hn] at hlc h40 hfm ⊢
    have HN := hidOf hn
    clear h hn
    obtain ⟨i0, hi, hz0, hz1, hz2⟩ := info_parts Try.infoIntT
    go_enter Try.func26, Try.ntmps26
    go_wp2_with (first | (go_at_call 13; refine hfm.mono ?_; rintro e w1 ⟨rfl, b1⟩) | fail)
    clear hfm
    go_loopw [5, 13] (fun t ix wr => ∃ (j : Nat), j ≤ n ∧ ix = .int .i64 (j : Int) ∧ OwnK wr w.heap.size 3 1 rInt t (inF l i j) ∧ Below w.heap.size w wr) (fun _ ix _ => n - (RowKit.intOf ix).toNat)
    case atStart => exact ⟨0, Nat.zero_le _, rfl, ownK_nil _ _ _ _ _, b1⟩
    case round =>
      clear b1
      obtain ⟨j, hj, rfl, hO, hb⟩ := hrel
      obtain ⟨va, vc, rfl, hvl, hvm⟩ := hO.form
      by_cases hlt : j < n
      · obtain ⟨b, off, rfl, hbl, c0, c1, c2, c3, c4, c5, c6⟩ := nd_at HC.out j (by rw [HN.out]; exact hlt)
        replace c0 := (hb.cell (p := ⟨b, off + j * 7, none⟩) hbl).trans c0
        replace c1 := (hb.cell (p := ⟨b, off + j * 7 + 1, none⟩) hbl).trans c1
        replace c2 := (hb.cell (p := ⟨b, off + j * 7 + 2, none⟩) hbl).trans c2
        replace c3 := (hb.cell (p := ⟨b, off + j * 7 + 3, none⟩) hbl).trans c3
        replace c4 := (hb.cell (p := ⟨b, off + j * 7 + 4, none⟩) hbl).trans c4
        replace c5 := (hb.cell (p := ⟨b, off + j * 7 + 5, none⟩) hbl).trans c5
        replace c6 := (hb.cell (p := ⟨b, off + j * 7 + 6, none⟩) hbl).trans c6
        have HS := hidOf (inF_succ l i j)
        have hil := inF_len l i j
        generalize (nAt l j).1 = x0 at *
        generalize nP l j = x1 at *
        generalize nD l j = x2 at *
        generalize nB l j = x3 at *
        generalize (nAt l j).2.2.1 = x4 at *
        generalize (nAt l j).2.2.2.1 = x5 at *
        generalize nL l j = x6 at *
        have i1 : (j : Int) < (n : Int) := by omega
        have i2 : (0 : Int) ≤ (j : Int) := by omega
        have hal : Below wr.heap.size wr (wr.alloc (.cells #[.string x0, .int .i64 x1, .int .i64 x2, .int .i64 x3, .bool x4, .bool x5, .bool x6] 70)) := (Below.refl wr.heap.size wr).alloc (Nat.le_refl _) _
        have hb1 := hb.trans (hal.mono hb.size)
        have hO1 := hO.on kp_int hal
        by_cases he : x1 = i
        · have HS2 : Hid (inF l i (j + 1) = inF l i j ++ [(j : Int)]) := by have := HS.out; rw [if_pos he] at this; exact this
          subst he
          clear HS
          go_upto_region 8 with fail
          generalize (wr.alloc (.cells #[.string x0, .int .i64 x1, .int .i64 x2, .int .i64 x3, .bool x4, .bool x5, .bool x6] 70)) = wx at *
          clear c0 c1 c2 c3 c4 c5 c6
          go_wp2_with (first
            | (at_builtin; refine wpList_pushK wx rfl _ _ 64 rfl w.heap.size 3 i0 (.int .i64 0) 1 8 Try.underlying64 hi hz0 hz1 hz2 rfl kp_int (.slice va (inF l x1 j).length vc) (inF l x1 j) (j : Int) [.int .i64 (j : Int)] wx.heap.size rfl rfl rfl (by simp [Value.oneCell']) hO1 rfl hb1.size (fun x hx => (hO1.blk x hx).2) (by omega) (by unfold maxLen; omega) hb1.size ?_; intro vb wb hOb hgb hbb)
            | fail)
          go_wp2
          go_roundw
          case rel => exact ⟨j + 1, hlt, by go_num, by rw [HS2.out]; exact hOb, hb1.trans hbb⟩
          case measure => simp [RowKit.intOf]; omega
        · have HS2 : Hid (inF l i (j + 1) = inF l i j) := by have := HS.out; rw [if_neg he, List.append_nil] at this; exact this
          have he2 : (x1 == i) = false := beq_eq_false_iff_ne.2 he
          clear he HS
          go_wp2
          go_roundw
          case rel => exact ⟨j + 1, hlt, by go_num, by rw [HS2.out]; exact hO1, hb1⟩
          case measure => simp [RowKit.intOf]; omega
      · have i1 : ¬ (j : Int) < (n : Int) := by omega
        have hjn : j = n := by omega
        go_wp2
        go_ret
        refine ⟨_, rfl, ?_, hb⟩
        rw [← hjn]
        exact hO.rd kp_int
end Go.Proofs.Ytdekboacjjpjeaa
