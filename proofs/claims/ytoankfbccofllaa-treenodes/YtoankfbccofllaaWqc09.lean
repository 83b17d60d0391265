import Derived.Test.YtoankfbccofllaaWqc06
import Derived.Test.YtoankfbccofllaaWqc08
import Derived.Test.YtoankfbccofllaaWqc05
import Derived.Test.YtoankfbccofllaaWqc03
import Derived.Deep.CutBlock
import Derived.Test.YtoankfbccofllaaWqc04

/- The document's states, flat: what all answers. -/
namespace Go.Proofs.Ytoankfbccofllaa
open Go.RowKit Go.Lib
set_option linter.unusedSimpArgs false
set_option linter.unusedVariables false
attribute [local go_sem ↓] Go.wp_at_zero Go.wp_at_succ

theorem flA_snoc (d : Nat) (rc : Int → Nat → List (St d) → List (Int × SgS)) (p : Int) (t : St (d + 1)) : ∀ (l : List (St (d + 1))) (m : Nat), flA d rc p m (l ++ [t]) = flA d rc p m l ++ ((p, ⟨d + 1, t⟩) :: rc ((m + (flA d rc p m l).length : Nat) : Int) (m + (flA d rc p m l).length + 1) t.2)
  | [], m => by simp [flA]
  | x :: r, m => by
    have h := flA_snoc d rc p t r (m + 1 + (rc m (m + 1) x.2).length)
    have e : m + (flA d rc p m (x :: r)).length = m + 1 + (rc m (m + 1) x.2).length + (flA d rc p (m + 1 + (rc m (m + 1) x.2).length) r).length := by
      simp only [flA, List.length_cons, List.length_append]
      omega
    rw [e]
    simp only [List.cons_append, flA, h, List.append_assoc]
theorem flP_snoc (d : Nat) (p : Int) (m : Nat) (t : St (d + 1)) (l : List (St (d + 1))) : flP (d + 1) p m (l ++ [t]) = flP (d + 1) p m l ++ ((p, ⟨d + 1, t⟩) :: flP d ((m + (flP (d + 1) p m l).length : Nat) : Int) (m + (flP (d + 1) p m l).length + 1) t.2) := flA_snoc d (flP d) p t l m
theorem flM_take (d : Nat) (l : List (St (d + 1))) (j : Nat) : (flM (d + 1) 0 (l.take j)).length ≤ (flM (d + 1) 0 l).length := by
  have e : flM (d + 1) 0 l = flM (d + 1) 0 (l.take j) ++ flM (d + 1) 0 (l.drop j) := by
    show l.flatMap _ = (l.take j).flatMap _ ++ (l.drop j).flatMap _
    rw [← List.flatMap_append, List.take_append_drop]
  rw [e, List.length_append]
  omega
def rSg (ok : Nat → Prop) (W : World) : SgS → List Value → Prop
  | ⟨d, t⟩, cs => rStD d ok W t cs
/-- A state with the number of the one it lies in: its parts lie where they lay in W. -/
def rFl (ok : Nat → Prop) (W : World) (_ : Nat → Prop) (_ : World) (x : Int × SgS) (cs : List Value) : Prop := ∃ cs0, rSg ok W x.2 cs0 ∧ cs = cs0 ++ [.int .i64 x.1]
theorem kp_fl (ok : Nat → Prop) (W : World) : Kp (rFl ok W) := fun _ _ _ _ _ _ h _ => h
theorem fl_one {ok ok' : Nat → Prop} {W W' : World} {x : Int × SgS} {cs : List Value} (h : rFl ok W ok' W' x cs) : ∀ u ∈ cs, u.oneCell' = true := by
  obtain ⟨p, d, t⟩ := x
  obtain ⟨cs0, h1, rfl⟩ := h
  cases d with
  | zero => exact Empty.elim t
  | succ d =>
    obtain ⟨so, si, rfl, h2, h3⟩ := h1
    obtain ⟨a, c, rfl, _⟩ := h2.form
    obtain ⟨a', c', rfl, _⟩ := h3.form
    intro u hu
    simp only [hdD, List.mem_append, List.mem_cons, List.not_mem_nil, or_false] at hu
    rcases hu with (rfl | rfl | rfl | rfl | rfl | rfl | rfl | rfl | rfl | rfl | rfl) | rfl <;> rfl
theorem src_own {w : World} {base e k n : Nat} {tx : TypeId} {v : Value} {xs : List Value} (h : w.ownsRow base e k v n xs) (ht : Try.prog.underlying tx = some (.slice e)) (h1 : ∀ u ∈ xs, u.oneCell' = true) : Src Try.prog k tx v n xs w := by
  have hc := fun g => World.ownsRow.cells h (g := g)
  have hl := h.1
  rcases h.2 with ⟨rfl, hn⟩ | ⟨g, cap, cur, rfl, hb, hg, hnc, hcm, hcs, htake⟩
  · subst hn
    have hx : xs = [] := List.eq_nil_of_length_eq_zero (by rw [hl]; simp)
    subst hx
    exact Src.ofNil w ht 0
  · exact Src.ofSlice w ht _ n cap xs hl (hc g rfl) h1
/-- Two rows as one. -/
theorem own_app {α : Type} {w : World} {base e k : Nat} {R : (Nat → Prop) → World → α → List Value → Prop} {v : Value} {l l2 : List α} {qs qs2 : List (List Value)} (ho : w.ownsRow base e k v (l.length + l2.length) (qs.flatten ++ qs2.flatten)) (h1 : qs.length = l.length) (h2 : qs2.length = l2.length)
    (r1 : ∀ (i : Nat) (h : i < l.length) (h' : i < qs.length), (qs[i]).length = k ∧ ∀ ok w, R ok w l[i] qs[i]) (r2 : ∀ (i : Nat) (h : i < l2.length) (h' : i < qs2.length), (qs2[i]).length = k ∧ ∀ ok w, R ok w l2[i] qs2[i]) : OwnK w base e k R v (l ++ l2) := by
  refine ⟨qs ++ qs2, ?_, by simp [h1, h2], fun i h h' => ?_⟩
  · rw [List.flatten_append, List.length_append]
    exact ho
  · by_cases hi : i < l.length
    · rw [List.getElem_append_left (by omega), List.getElem_append_left hi]
      exact ⟨(r1 i hi (by omega)).1, (r1 i hi (by omega)).2 _ _⟩
    · simp only [List.length_append] at h h'
      have := r2 (i - l.length) (by omega) (by omega)
      rw [List.getElem_append_right (by omega), List.getElem_append_right (by omega)]
      simp only [h1]
      exact ⟨this.1, this.2 _ _⟩
theorem Try.infoFl : (Try.prog.info? 54).map (fun i => (i.zero, i.size, i.bytes)) = some (some (.agg #[.string ⟨#[]⟩, .int .i64 0, .int .i64 0, .bool false, .bool false, .string ⟨#[]⟩, .string ⟨#[]⟩, .int .i64 0, .int .i64 0, .slice none 0 0, .slice none 0 0, .int .i64 0]), 12, 144) := by kernel_rfl
theorem fl_all {ok ok' : Nat → Prop} {W W' : World} {l : List (Int × SgS)} {qs : List (List Value)} (h1 : qs.length = l.length) (h2 : ∀ (i : Nat) (h : i < l.length) (h' : i < qs.length), (qs[i]).length = 12 ∧ rFl ok W ok' W' l[i] qs[i]) : ∀ u ∈ qs.flatten, u.oneCell' = true := by
  intro u hu
  obtain ⟨q, hq, hu⟩ := List.mem_flatten.1 hu
  obtain ⟨i, hi, rfl⟩ := List.getElem_of_mem hq
  exact fl_one (h2 i (by omega) hi).2 u hu
def AlC (d : Nat) : Prop := ∀ (ok : Nat → Prop) (W w : World) (l : List (St d)) (v : Value) (p : Int) (m : Nat), RdK ok W 11 (rStD d ok W) l v → Below W.heap.size W w → m + (flM d 0 l).length ≤ 100000 →
  Calls Try.prog 24 #[v, .int .i64 p, .int .i64 (m : Int)] w fun e w' => ∃ a n c, e = .returned (.slice a n c) ∧ OwnK w' w.heap.size 54 12 (rFl ok W) (.slice a n c) (flP d p m l) ∧ Below w.heap.size w w'
set_option maxRecDepth 100000 in
set_option maxHeartbeats 16000000 in
theorem al_step (d : Nat) (IH : AlC d) : AlC (d + 1) := by
  intro ok W w l v p m h hW hbd
  obtain ⟨a, cap, rfl, hlc, hcm⟩ := h.form
  unfold maxLen at hcm
  have HC := mkHid h
  have HSN := mkHid (fun t j (hj : l.take (j + 1) = l.take j ++ [t]) => by have := flP_snoc d p m t (l.take j); rw [← hj] at this; exact this)
  have HLE : ∀ j, (flP (d + 1) p m (l.take j)).length ≤ (flM (d + 1) 0 l).length := fun j => by rw [flP_len (d + 1) 0]; exact flM_take d l j
  have HLN : Hid (∀ (q : Nat) (x : List (St d)), (flP d (q : Int) (q + 1) x).length = (flM d 0 x).length) := fun q x => flP_len d 0 _ _ _
  obtain ⟨L, hL⟩ : ∃ L, (flM (d + 1) 0 l).length = L := ⟨_, rfl⟩
  rw [hL] at hbd
  simp only [hL] at HLE
  obtain ⟨n, hn⟩ : ∃ n, l.length = n := ⟨_, rfl⟩
  rw [hn] at hlc ⊢
  have HN : Hid (l.length = n) := hn
  obtain ⟨i0, hi, hz0, hz1, hz2⟩ := info_parts Try.infoFl
  clear h hn hL
  go_enter Try.func24, Try.ntmps24
  go_wp2
  go_loopw [7, 12] (fun t ix wr => ∃ (j : Nat), j ≤ n ∧ ix = .int .i64 (j : Int) ∧ OwnK wr w.heap.size 54 12 (rFl ok W) t (flP (d + 1) p m (l.take j)) ∧ Below w.heap.size w wr) (fun _ ix _ => n - (RowKit.intOf ix).toNat)
  case atStart => exact ⟨0, Nat.zero_le _, rfl, ownK_nil _ _ _ _ _, Below.refl _ _⟩
  case round =>
    obtain ⟨j, hj, rfl, hO, hb⟩ := hrel
    obtain ⟨va, vc, hv, hvl, hvm⟩ := hO.form
    obtain ⟨q, hq⟩ : ∃ q, (flP (d + 1) p m (l.take j)).length = q := ⟨_, rfl⟩
    have hql := HLE j
    rw [hq] at hv hvl hql
    subst hv
    by_cases hlt : j < n
    · have hjl : j < l.length := by rw [HN.out]; exact hlt
      have hWr : Below W.heap.size W wr := hW.trans (hb.mono hW.size)
      obtain ⟨b, off, p1, p3, p4, p6, rfl, _, hbl, hOn, hIn, hc⟩ := stD_at HC.out j hjl
      obtain ⟨t, ht⟩ : ∃ t, l[j] = t := ⟨_, rfl⟩
      rw [ht] at hOn hIn hc
      have hsn := HSN.out t j (by rw [List.take_succ_eq_append_getElem hjl, ht])
      have hle2 := HLE (j + 1)
      rw [hq] at hsn
      rw [hsn, List.length_append, List.length_cons, hq, HLN.out] at hle2
      have HSN2 := mkHid hsn
      have hr0 : rFl ok W (fun b => wr.heap.size ≤ b) wr (p, ⟨d + 1, t⟩) (hdD t.1 (.slice p1 t.1.2.2.2.2.length p3) (.slice p4 t.2.length p6) ++ [.int .i64 p]) := ⟨_, ⟨_, _, rfl, hOn, hIn⟩, rfl⟩
      obtain ⟨sn, sl, sc, sb, se, sd, su, sw, sr, hsv, _, _, _⟩ := hdD_let t.1
      rw [hsv] at hc hr0
      have HR0 := mkHid hr0
      have hcall := IH ok W
      have hIn2 := mkHid hIn
      have C0 := (hWr.cell (p := ⟨b, off + j * 11 + 0, none⟩) hbl).trans (hc 0 _ rfl)
      have C1 := (hWr.cell (p := ⟨b, off + j * 11 + 1, none⟩) hbl).trans (hc 1 _ rfl)
      have C2 := (hWr.cell (p := ⟨b, off + j * 11 + 2, none⟩) hbl).trans (hc 2 _ rfl)
      have C3 := (hWr.cell (p := ⟨b, off + j * 11 + 3, none⟩) hbl).trans (hc 3 _ rfl)
      have C4 := (hWr.cell (p := ⟨b, off + j * 11 + 4, none⟩) hbl).trans (hc 4 _ rfl)
      have C5 := (hWr.cell (p := ⟨b, off + j * 11 + 5, none⟩) hbl).trans (hc 5 _ rfl)
      have C6 := (hWr.cell (p := ⟨b, off + j * 11 + 6, none⟩) hbl).trans (hc 6 _ rfl)
      have C7 := (hWr.cell (p := ⟨b, off + j * 11 + 7, none⟩) hbl).trans (hc 7 _ rfl)
      have C8 := (hWr.cell (p := ⟨b, off + j * 11 + 8, none⟩) hbl).trans (hc 8 _ rfl)
      have C9 := (hWr.cell (p := ⟨b, off + j * 11 + 9, none⟩) hbl).trans (hc 9 _ rfl)
      have C10 := (hWr.cell (p := ⟨b, off + j * 11 + 10, none⟩) hbl).trans (hc 10 _ rfl)
      rw [Nat.add_zero] at C0
      have HCX : Hid (W.cell? ⟨b, off + j * 11 + 10, none⟩ = some (.slice p4 t.2.length p6)) := hc 10 _ rfl
      obtain ⟨z, hz⟩ : ∃ z, t.2.length = z := ⟨_, rfl⟩
      obtain ⟨y, hy⟩ : ∃ y, t.1.2.2.2.2.length = y := ⟨_, rfl⟩
      rw [hz] at C10 HCX HR0
      rw [hy] at C9 HR0
      obtain ⟨M, hM⟩ : ∃ M, m + q = M := ⟨_, rfl⟩
      have eM : (m : Int) + (q : Int) = (M : Int) := by omega
      have i1 : (j : Int) < (n : Int) := by omega
      have i2 : (0 : Int) ≤ (j : Int) := by omega
      have HQ := mkHid hq
      clear hc hsv hOn hIn hr0 HSN HLE ht hsn hq
      go_upto_region 7 with (first
        | (at_builtin; refine wpList_pushK wr rfl _ _ 48 rfl w.heap.size 54 i0 (.agg #[.string ⟨#[]⟩, .int .i64 0, .int .i64 0, .bool false, .bool false, .string ⟨#[]⟩, .string ⟨#[]⟩, .int .i64 0, .int .i64 0, .slice none 0 0, .slice none 0 0, .int .i64 0]) 12 144 Try.underlying48 hi hz0 hz1 hz2 rfl (kp_fl ok W) (.slice va q vc) (flP (d + 1) p m (l.take j)) (p, ⟨d + 1, t⟩) [.string sn, .int .i64 sl, .int .i64 sc, .bool sb, .bool se, .string sd, .string su, .int .i64 sw, .int .i64 sr, .slice p1 y p3, .slice p4 z p6, .int .i64 p] wr.heap.size rfl rfl rfl (by simp [Value.oneCell']) hO HR0.out hb.size (fun x hx => (hO.blk x hx).2) (by rw [HQ.out]; omega) (by rw [HQ.out]; unfold maxLen; omega) hb.size ?_; intro vb wb hOb hgb hbb)
        | fail)
      obtain ⟨qs, ho, hqs, hqr⟩ := hOb
      obtain ⟨ua, uc, hu, hul, hum⟩ := OwnK.form ⟨qs, ho, hqs, hqr⟩
      have e1 : (flP (d + 1) p m (l.take j) ++ [(p, (⟨d + 1, t⟩ : SgS))]).length = q + 1 := by rw [List.length_append, HQ.out]; rfl
      rw [e1] at hu hul
      subst hu
      have hb2 := hb.trans hbb
      have hW2 := hW.trans (hb2.mono hW.size)
      have C10b := (hW2.cell (p := ⟨b, off + j * 11 + 10, none⟩) hbl).trans HCX.out
      have hcall2 := hcall wb t.2 (.slice p4 z p6) (M : Int) (M + 1) (by rw [← hz]; exact hIn2.out) hW2 (by omega)
      have eM1 : ((M + 1 : Nat) : Int) = (M : Int) + 1 := by omega
      rw [eM1] at hcall2
      have HO := mkHid ho
      have HQS := mkHid hqs
      have HQR := mkHid hqr
      have HE1 := mkHid e1
      clear hcall C0 C1 C2 C3 C4 C5 C6 C7 C8 C9 C10 hO hb hWr hgb hbb ho hqs hqr e1 eM1
      go_wp2_with (first
        | (go_at_call 24; refine hcall2.mono ?_; rintro e w2 ⟨sa, sn2, sc2, rfl, ⟨qs2, ho2, hqs2, hqr2⟩, b2⟩; have hok := ownsRow_keep HO.out (fun g hg => b2.block g (ownsRow_lt HO.out g hg).2); rw [HE1.out] at hok; have hsrc := src_own (tx := 48) ho2 Try.underlying48 (fl_all hqs2 hqr2); have hln := HLN.out M t.2; have hsb : wb.heap.size ≤ w2.heap.size := b2.size; rw [hln] at hsrc)
        | (at_builtin; refine wpList_append_at _ rfl _ _ 48 48 rfl w.heap.size 54 i0 (.agg #[.string ⟨#[]⟩, .int .i64 0, .int .i64 0, .bool false, .bool false, .string ⟨#[]⟩, .string ⟨#[]⟩, .int .i64 0, .int .i64 0, .slice none 0 0, .slice none 0 0, .int .i64 0]) 12 144 Try.underlying48 hi hz0 hz1 hz2 rfl (.slice ua (q + 1) uc) (q + 1) qs.flatten rfl hok _ _ _ rfl hsrc (flM d 0 t.2).length (.inr (by omega)) (Nat.le_refl _) (by unfold maxLen; omega) (Nat.le_trans hb2.size hsb) ?_; intro vd wd hOd hgd hat)
        | fail)
      have hOe : OwnK wd w.heap.size 54 12 (rFl ok W) vd (flP (d + 1) p m (l.take (j + 1))) := by
        have e2 : flP (d + 1) p m (l.take (j + 1)) = (flP (d + 1) p m (l.take j) ++ [(p, (⟨d + 1, t⟩ : SgS))]) ++ flP d (M : Int) (M + 1) t.2 := by
          rw [HSN2.out, hM, List.append_assoc]
          rfl
        rw [e2]
        refine own_app (qs := qs) (qs2 := qs2) ?_ HQS.out hqs2 (fun i h h' => ⟨(HQR.out i h h').1, fun _ _ => (HQR.out i h h').2⟩) (fun i h h' => ⟨(hqr2 i h h').1, fun _ _ => (hqr2 i h h').2⟩)
        rw [HE1.out, hln]
        exact hOd
      have hbd2 : Below w.heap.size w wd := (hb2.trans (b2.mono hb2.size)).grown hgd (Nat.le_trans hb2.size hsb) (fun k hk => (ownsRow_lt hok k hk).1)
      clear hok hsrc hOd hgd hat ho2 hqs2 hqr2
      go_wp2
      go_roundw
      case rel => exact ⟨j + 1, hlt, by go_num, hOe, hbd2⟩
      case measure => simp [RowKit.intOf]; omega
    · have i1 : ¬ (j : Int) < (n : Int) := by omega
      have hjn : l.take j = l := List.take_of_length_le (by rw [HN.out]; omega)
      rw [hjn] at hO
      go_wp2
      go_ret
      exact ⟨_, _, _, rfl, hO, hb⟩
theorem al_all : ∀ d, AlC d
  | 0 => by
    intro ok W w l v p m h hW hbd
    cases l with
    | cons t r => exact Empty.elim t
    | nil =>
      obtain ⟨a, cap, rfl, hlc, hcm⟩ := h.form
      unfold maxLen at hcm
      simp only [List.length_nil] at hlc ⊢
      go_enter Try.func24, Try.ntmps24
      go_wp2
      go_loopw [7, 12] (fun t ix wr => t = .slice none 0 0 ∧ ix = .int .i64 0 ∧ wr = w) (fun _ _ _ => 0)
      case atStart => exact ⟨rfl, rfl, rfl⟩
      case round =>
        obtain ⟨rfl, rfl, rfl⟩ := hrel
        go_wp2
        go_ret
        exact ⟨_, _, _, rfl, ownK_nil _ _ _ _ _, Below.refl _ _⟩
  | d + 1 => al_step d (al_all d)
end Go.Proofs.Ytoankfbccofllaa

/- Nodes, by parents: what is met on the way up. Math alone. -/
namespace Go.Proofs.Ytoankfbccofllaa
set_option linter.unusedVariables false

/-- Parents lie ahead. -/
def Ahd (n : Nat) (P : Nat → Int) : Prop := ∀ m < n, -1 ≤ P m ∧ P m < m
theorem dpR_more {n : Nat} {P : Nat → Int} (hP : Ahd n P) : ∀ (f : Nat) (c : Int), -1 ≤ c → c < f → c < n → dpR P f c = dpR P (c + 1).toNat c
  | 0, c, h1, h2, h3 => by
    have : c = -1 := by omega
    subst this; rfl
  | f + 1, c, h1, h2, h3 => by
    by_cases h0 : c < 0
    · have : c = -1 := by omega
      subst this
      unfold dpR; rw [if_pos (by omega)]; rfl
    have e : (c + 1).toNat = c.toNat + 1 := by omega
    rw [e]
    unfold dpR
    rw [if_neg h0, if_neg h0]
    have hl := hP c.toNat (by omega)
    rw [dpR_more hP f (P c.toNat) (by omega) (by omega) (by omega), dpR_more hP c.toNat (P c.toNat) (by omega) (by omega) (by omega)]
theorem dpR_step {n : Nat} {P : Nat → Int} (hP : Ahd n P) {k : Nat} (hk : k < n) : dpR P ((k : Int) + 1).toNat k = 1 + dpR P (P k + 1).toNat (P k) := by
  have e : ((k : Int) + 1).toNat = k + 1 := by omega
  have hl := hP k hk
  rw [e, dpR, if_neg (by omega), Int.toNat_natCast, dpR_more hP k (P k) (by omega) (by omega) (by omega)]
theorem dpR_le {n : Nat} {P : Nat → Int} : ∀ (f : Nat) (c : Int), dpR P f c ≤ f
  | 0, c => by simp [dpR]
  | f + 1, c => by
    unfold dpR
    split
    · omega
    · have := dpR_le (n := n) (P := P) f (P c.toNat); omega
end Go.Proofs.Ytoankfbccofllaa

/- What the document's lies answers. -/
namespace Go.Proofs.Ytoankfbccofllaa
open Go.RowKit Go.Lib
set_option linter.unusedSimpArgs false
set_option linter.unusedVariables false
attribute [local go_sem ↓] Go.wp_at_zero Go.wp_at_succ




set_option maxRecDepth 100000 in
set_option maxHeartbeats 4000000 in
theorem theirsN_any {ok : Nat → Prop} {w : World} {l : List Nd} {v : Value} (h : RdNd ok w l v) (h60 : l.length ≤ 60) :
    Calls Try.prog 12 #[v] w fun e w' => ∃ u, e = .returned u ∧ RdNd (fun b => w.heap.size ≤ b) w' l u ∧ Below w.heap.size w w' := by
  obtain ⟨a, cap, rfl, hlc, hcm⟩ := h.form
  unfold maxLen at hcm
  have HC := hidOf h
  obtain ⟨n, hn⟩ : ∃ n, l.length = n := ⟨_, rfl⟩
  rw [hn] at hlc h60 ⊢
  have HN := hidOf hn
  clear h hn
  obtain ⟨i0, hi, hz0, hz1, hz2⟩ := info_parts Try.infoNdP
  go_enter Try.func12, Try.ntmps12
  go_wp2
  go_loopw [3, 7] (fun t ix wr => ∃ (j : Nat), j ≤ n ∧ ix = .int .i64 (j : Int) ∧ OwnK wr w.heap.size 58 7 rNd t (l.take j) ∧ Below w.heap.size w wr) (fun _ ix _ => n - (RowKit.intOf ix).toNat)
  case atStart => exact ⟨0, Nat.zero_le _, rfl, ownK_nil _ _ _ _ _, Below.refl _ _⟩
  case round =>
    obtain ⟨j, hj, rfl, hO, hb⟩ := hrel
    have hlj : (l.take j).length = j := by rw [List.length_take, HN.out]; omega
    obtain ⟨va, vc, hv, hvl, hvm⟩ := hO.form
    rw [hlj] at hv hvl
    subst hv
    have HLJ := hidOf hlj
    clear hlj
    by_cases hlt : j < n
    · have hjl : j < l.length := by rw [HN.out]; exact hlt
      obtain ⟨b, off, rfl, hbl, c0, c1, c2, c3, c4, c5, c6⟩ := nd_at HC.out j hjl
      replace c0 := (hb.cell (p := ⟨b, off + j * 7, none⟩) hbl).trans c0
      replace c1 := (hb.cell (p := ⟨b, off + j * 7 + 1, none⟩) hbl).trans c1
      replace c2 := (hb.cell (p := ⟨b, off + j * 7 + 2, none⟩) hbl).trans c2
      replace c3 := (hb.cell (p := ⟨b, off + j * 7 + 3, none⟩) hbl).trans c3
      replace c4 := (hb.cell (p := ⟨b, off + j * 7 + 4, none⟩) hbl).trans c4
      replace c5 := (hb.cell (p := ⟨b, off + j * 7 + 5, none⟩) hbl).trans c5
      replace c6 := (hb.cell (p := ⟨b, off + j * 7 + 6, none⟩) hbl).trans c6
      have HS : Hid (l.take (j + 1) = l.take j ++ [nAt l j]) := by
        show _ = _
        rw [List.take_succ_eq_append_getElem hjl, nAt_get hjl]
      have hrn : rNd (fun b => wr.heap.size ≤ b) wr (nAt l j) [.string (nAt l j).1, .int .i64 (nP l j), .int .i64 (nD l j), .int .i64 (nB l j), .bool (nAt l j).2.2.1, .bool (nAt l j).2.2.2.1, .bool (nL l j)] := rfl
      have HRN := hidOf hrn
      obtain ⟨nd, hnd⟩ : ∃ x, nAt l j = x := ⟨_, rfl⟩
      generalize nP l j = x1 at *
      generalize nD l j = x2 at *
      generalize nB l j = x3 at *
      generalize nL l j = x6 at *
      rw [hnd] at c0 c4 c5 HS HRN
      generalize nd.1 = x0 at *
      generalize nd.2.2.1 = x4 at *
      generalize nd.2.2.2.1 = x5 at *
      clear hnd hrn
      have i1 : (j : Int) < (n : Int) := by omega
      have i2 : (0 : Int) ≤ (j : Int) := by omega
      go_wp2_with (first
        | (at_builtin; refine wpList_pushK wr rfl _ _ 32 rfl w.heap.size 58 i0 (.agg #[.string ⟨#[]⟩, .int .i64 0, .int .i64 0, .int .i64 0, .bool false, .bool false, .bool false]) 7 48 Try.underlying32 hi hz0 hz1 hz2 rfl kp_nd (.slice va j vc) (l.take j) nd [.string x0, .int .i64 x1, .int .i64 x2, .int .i64 x3, .bool x4, .bool x5, .bool x6] wr.heap.size rfl rfl rfl (by simp [Value.oneCell']) hO HRN.out hb.size (fun x hx => (hO.blk x hx).2) (by rw [HLJ.out]; omega) (by rw [HLJ.out]; unfold maxLen; omega) hb.size ?_; intro vb wb hOb hgb hbb)
        | fail)
      go_wp2
      go_roundw
      case rel => exact ⟨j + 1, hlt, by go_num, by rw [HS.out]; exact hOb, hb.trans hbb⟩
      case measure => simp [RowKit.intOf]; omega
    · have i1 : ¬ (j : Int) < (n : Int) := by omega
      have hjn : l.take j = l := List.take_of_length_le (by rw [HN.out]; omega)
      rw [hjn] at hO
      go_wp2
      go_ret
      exact ⟨_, rfl, hO.rd kp_nd, hb⟩
def ndA : Nd := (⟨#[97]⟩, (-1, 0, 1), (false, false, true))
theorem fdA0 : fdB [ndA] ⟨#[97]⟩ = 0 := by kernel_rfl
theorem wiA0 : wiB [] (-1) (-1) = true := by kernel_rfl
theorem rdA (w : World) : RdNd (fun _ => True) (w.alloc (.cells #[.string ⟨#[97]⟩, .int .i64 (-1), .int .i64 0, .int .i64 1, .bool false, .bool false, .bool true] 58)) [ndA] (.slice (some ⟨w.heap.size, 0, none⟩) 1 1) := by
  refine ⟨_, 1, rfl, Nat.le_refl _, by simp [maxLen], fun i hi => ?_⟩
  have : i = 0 := by simp at hi; omega
  subst this
  refine ⟨w.heap.size, 0, ndV ndA, rfl, trivial, by simp, rfl, rfl, fun j u hu => ?_⟩
  have := (Bn.new w (ndV ndA) 58 _ rfl j u hu).1
  rw [show 0 + 0 * 7 + j = j by omega]
  exact this
set_option maxRecDepth 100000 in
set_option maxHeartbeats 4000000 in
theorem awakeT_any (w : World) : Calls Try.prog 4 #[] w fun e w' => e = .returned (.bool true) ∧ Below w.heap.size w w' := by
  have hb0 := (Below.refl w.heap.size w).alloc (Nat.le_refl _) (.cells #[.string ⟨#[97]⟩, .int .i64 (-1), .int .i64 0, .int .i64 1, .bool false, .bool false, .bool true] 58)
  have hfd := find_any (rdA w) ⟨#[97]⟩
  rw [fdA0] at hfd
  have hwi := fun w1 => twithin_any (rdK_none (fun _ => True) w1 7 (rNd (fun _ => True) w1)) (-1) (-1)
  rw [wiA0] at hwi
  go_enter Try.func4, Try.ntmps4
  go_wp2_with (first | (go_at_call 15; refine hfd.mono ?_; rintro e w1 ⟨rfl, b1⟩) | (go_at_call 16; refine (hwi _).mono ?_; rintro e w2 ⟨rfl, b2⟩) | fail)
  go_ret
  exact ⟨rfl, (hb0.trans (b1.mono hb0.size)).trans (b2.mono (Nat.le_trans hb0.size b1.size))⟩
set_option maxRecDepth 100000 in
set_option maxHeartbeats 4000000 in
theorem allD_any {ok : Nat → Prop} {W w : World} {d : Nat} {l : List (St d)} {v : Value} (h : RdK ok W 11 (rStD d ok W) l v) (hW : Below W.heap.size W w) (hn : (flM d 0 l).length ≤ 90000) :
    Calls Try.prog 14 #[v] w fun e w' => ∃ a n c, e = .returned (.slice a n c) ∧ OwnK w' w.heap.size 54 12 (rFl ok W) (.slice a n c) (flP d (-1) 0 l) ∧ Below w.heap.size w w' := by
  have hc := al_all d ok W w l v (-1) 0 h hW (by omega)
  obtain ⟨a, cap, rfl, hlc, hcm⟩ := h.form
  go_enter Try.func14, Try.ntmps14
  go_wp2_with (first | (go_at_call 24; refine hc.mono ?_; rintro e w1 ⟨ra, rn, rc, rfl, hO, b1⟩) | fail)
  go_ret
  exact ⟨_, _, _, rfl, hO, b1⟩
theorem Try.infoNdR : (Try.prog.info? 61).map (fun i => (i.zero, i.size, i.bytes)) = some (some (.agg #[.string ⟨#[]⟩, .int .i64 0, .int .i64 0, .int .i64 0, .bool false, .bool false, .bool false]), 7, 48) := by kernel_rfl
set_option maxRecDepth 100000 in
set_option maxHeartbeats 4000000 in
theorem oursN_any {ok : Nat → Prop} {w : World} {l : List Nd} {v : Value} (h : RdNd ok w l v) (h60 : l.length ≤ 60) :
    Calls Try.prog 6 #[v] w fun e w' => ∃ u, e = .returned u ∧ RdNd (fun b => w.heap.size ≤ b) w' l u ∧ Below w.heap.size w w' := by
  obtain ⟨a, cap, rfl, hlc, hcm⟩ := h.form
  unfold maxLen at hcm
  have HC := hidOf h
  obtain ⟨n, hn⟩ : ∃ n, l.length = n := ⟨_, rfl⟩
  rw [hn] at hlc h60 ⊢
  have HN := hidOf hn
  clear h hn
  obtain ⟨i0, hi, hz0, hz1, hz2⟩ := info_parts Try.infoNdR
  go_enter Try.func6, Try.ntmps6
  go_wp2
  go_loopw [3, 7] (fun t ix wr => ∃ (j : Nat), j ≤ n ∧ ix = .int .i64 (j : Int) ∧ OwnK wr w.heap.size 61 7 rNd t (l.take j) ∧ Below w.heap.size w wr) (fun _ ix _ => n - (RowKit.intOf ix).toNat)
  case atStart => exact ⟨0, Nat.zero_le _, rfl, ownK_nil _ _ _ _ _, Below.refl _ _⟩
  case round =>
    obtain ⟨j, hj, rfl, hO, hb⟩ := hrel
    have hlj : (l.take j).length = j := by rw [List.length_take, HN.out]; omega
    obtain ⟨va, vc, hv, hvl, hvm⟩ := hO.form
    rw [hlj] at hv hvl
    subst hv
    have HLJ := hidOf hlj
    clear hlj
    by_cases hlt : j < n
    · have hjl : j < l.length := by rw [HN.out]; exact hlt
      obtain ⟨b, off, rfl, hbl, c0, c1, c2, c3, c4, c5, c6⟩ := nd_at HC.out j hjl
      replace c0 := (hb.cell (p := ⟨b, off + j * 7, none⟩) hbl).trans c0
      replace c1 := (hb.cell (p := ⟨b, off + j * 7 + 1, none⟩) hbl).trans c1
      replace c2 := (hb.cell (p := ⟨b, off + j * 7 + 2, none⟩) hbl).trans c2
      replace c3 := (hb.cell (p := ⟨b, off + j * 7 + 3, none⟩) hbl).trans c3
      replace c4 := (hb.cell (p := ⟨b, off + j * 7 + 4, none⟩) hbl).trans c4
      replace c5 := (hb.cell (p := ⟨b, off + j * 7 + 5, none⟩) hbl).trans c5
      replace c6 := (hb.cell (p := ⟨b, off + j * 7 + 6, none⟩) hbl).trans c6
      have HS : Hid (l.take (j + 1) = l.take j ++ [nAt l j]) := by
        show _ = _
        rw [List.take_succ_eq_append_getElem hjl, nAt_get hjl]
      have hrn : rNd (fun b => wr.heap.size ≤ b) wr (nAt l j) [.string (nAt l j).1, .int .i64 (nP l j), .int .i64 (nD l j), .int .i64 (nB l j), .bool (nAt l j).2.2.1, .bool (nAt l j).2.2.2.1, .bool (nL l j)] := rfl
      have HRN := hidOf hrn
      obtain ⟨nd, hnd⟩ : ∃ x, nAt l j = x := ⟨_, rfl⟩
      generalize nP l j = x1 at *
      generalize nD l j = x2 at *
      generalize nB l j = x3 at *
      generalize nL l j = x6 at *
      rw [hnd] at c0 c4 c5 HS HRN
      generalize nd.1 = x0 at *
      generalize nd.2.2.1 = x4 at *
      generalize nd.2.2.2.1 = x5 at *
      clear hnd hrn
      have i1 : (j : Int) < (n : Int) := by omega
      have i2 : (0 : Int) ≤ (j : Int) := by omega
      go_wp2_with (first
        | (at_builtin; refine wpList_pushK wr rfl _ _ 30 rfl w.heap.size 61 i0 (.agg #[.string ⟨#[]⟩, .int .i64 0, .int .i64 0, .int .i64 0, .bool false, .bool false, .bool false]) 7 48 Try.underlying30 hi hz0 hz1 hz2 rfl kp_nd (.slice va j vc) (l.take j) nd [.string x0, .int .i64 x1, .int .i64 x2, .int .i64 x3, .bool x4, .bool x5, .bool x6] wr.heap.size rfl rfl rfl (by simp [Value.oneCell']) hO HRN.out hb.size (fun x hx => (hO.blk x hx).2) (by rw [HLJ.out]; omega) (by rw [HLJ.out]; unfold maxLen; omega) hb.size ?_; intro vb wb hOb hgb hbb)
        | fail)
      go_wp2
      go_roundw
      case rel => exact ⟨j + 1, hlt, by go_num, by rw [HS.out]; exact hOb, hb.trans hbb⟩
      case measure => simp [RowKit.intOf]; omega
    · have i1 : ¬ (j : Int) < (n : Int) := by omega
      have hjn : l.take j = l := List.take_of_length_le (by rw [HN.out]; omega)
      rw [hjn] at hO
      go_wp2
      go_ret
      exact ⟨_, rfl, hO.rd kp_nd, hb⟩
set_option maxRecDepth 100000 in
set_option maxHeartbeats 4000000 in
theorem sameN_any {ok ok' : Nat → Prop} {w : World} {l : List Nd} {v v' : Value} (h : RdNd ok w l v) (h' : RdNd ok' w l v') :
    Calls Try.prog 10 #[v, v'] w fun e w' => e = .returned (.bool true) ∧ Below w.heap.size w w' := by
  obtain ⟨a, cap, rfl, hlc, hcm⟩ := h.form
  obtain ⟨a', cap', rfl, hlc', hcm'⟩ := h'.form
  unfold maxLen at hcm hcm'
  have HC := hidOf h
  have HC' := hidOf h'
  obtain ⟨n, hn⟩ : ∃ n, l.length = n := ⟨_, rfl⟩
  rw [hn] at hlc hlc' ⊢
  have HN := hidOf hn
  clear h h' hn
  go_enter Try.func10, Try.ntmps10
  go_wp2
  go_loopw [13] (fun ix wr => ∃ (j : Nat), j ≤ n ∧ ix = .int .i64 (j : Int) ∧ Below w.heap.size w wr) (fun ix _ => n - (RowKit.intOf ix).toNat)
  case atStart => exact ⟨0, Nat.zero_le _, rfl, Below.refl _ _⟩
  case round =>
    obtain ⟨j, hj, rfl, hb⟩ := hrel
    by_cases hlt : j < n
    · obtain ⟨b, off, rfl, hbl, c0, c1, c2, c3, c4, c5, c6⟩ := nd_at HC.out j (by rw [HN.out]; exact hlt)
      obtain ⟨b', off', rfl, hbl', d0, d1, d2, d3, d4, d5, d6⟩ := nd_at HC'.out j (by rw [HN.out]; exact hlt)
      replace c0 := (hb.cell (p := ⟨b, off + j * 7, none⟩) hbl).trans c0
      replace c1 := (hb.cell (p := ⟨b, off + j * 7 + 1, none⟩) hbl).trans c1
      replace c2 := (hb.cell (p := ⟨b, off + j * 7 + 2, none⟩) hbl).trans c2
      replace c3 := (hb.cell (p := ⟨b, off + j * 7 + 3, none⟩) hbl).trans c3
      replace c4 := (hb.cell (p := ⟨b, off + j * 7 + 4, none⟩) hbl).trans c4
      replace c5 := (hb.cell (p := ⟨b, off + j * 7 + 5, none⟩) hbl).trans c5
      replace c6 := (hb.cell (p := ⟨b, off + j * 7 + 6, none⟩) hbl).trans c6
      replace d0 := (hb.cell (p := ⟨b', off' + j * 7, none⟩) hbl').trans d0
      replace d1 := (hb.cell (p := ⟨b', off' + j * 7 + 1, none⟩) hbl').trans d1
      replace d2 := (hb.cell (p := ⟨b', off' + j * 7 + 2, none⟩) hbl').trans d2
      replace d3 := (hb.cell (p := ⟨b', off' + j * 7 + 3, none⟩) hbl').trans d3
      replace d4 := (hb.cell (p := ⟨b', off' + j * 7 + 4, none⟩) hbl').trans d4
      replace d5 := (hb.cell (p := ⟨b', off' + j * 7 + 5, none⟩) hbl').trans d5
      replace d6 := (hb.cell (p := ⟨b', off' + j * 7 + 6, none⟩) hbl').trans d6
      generalize (nAt l j).1 = x0 at *
      generalize nP l j = x1 at *
      generalize nD l j = x2 at *
      generalize nB l j = x3 at *
      generalize (nAt l j).2.2.1 = x4 at *
      generalize (nAt l j).2.2.2.1 = x5 at *
      generalize nL l j = x6 at *
      have i1 : (j : Int) < (n : Int) := by omega
      have i2 : (0 : Int) ≤ (j : Int) := by omega
      go_upto_region 6 with fail
      go_quiet (fail)
      have hb5 : Below w.heap.size w (wr.drewN nq) := ⟨hb.os, hb.tape, hb.output, hb.size, hb.block⟩
      obtain ⟨w5, hw5⟩ : ∃ w5, wr.drewN nq = w5 := ⟨_, rfl⟩
      rw [hw5] at hb5 ⊢
      clear hw5
      go_wp2
      go_roundw
      case rel => exact ⟨j + 1, hlt, by go_num, hb5⟩
      case measure => simp [RowKit.intOf]; omega
    · have i1 : ¬ (j : Int) < (n : Int) := by omega
      go_wp2
      go_ret
      exact ⟨rfl, hb⟩
end Go.Proofs.Ytoankfbccofllaa

/- The nodes, as the document lays them, are those that follow of how deep the states lie. -/
namespace Go.Proofs.Ytoankfbccofllaa
open Go.RowKit Go.Lib
set_option linter.unusedSimpArgs false
set_option linter.unusedVariables false

theorem flM_nil (d k : Nat) (l : List (St d)) : (flM d k l).length = 0 ↔ l.length = 0 := by
  cases d with
  | zero => cases l with
    | nil => simp [flM]
    | cons t r => exact Empty.elim t
  | succ d => cases l with
    | nil => simp [flM]
    | cons t r => rw [flM_cons]; simp
/-- The node of the i-th state, as the document lays it; dp how deep it lies. -/
def docN (dp : Int) (i : Nat) (x : Int × SgS) : Nd := match x with
  | (_, ⟨0, _⟩) => ndZ
  | (p, ⟨d + 1, t⟩) => (⟨t.1.1.1.toArray⟩, (p, dp, ((i + 1 + (flM d 0 t.2).length : Nat) : Int)), (t.1.2.1.1, t.1.2.1.2, decide (t.2.length = 0)))
theorem told_top (d : Nat) (l : List (St d)) : Told (nD ((flM d 0 l).map nd0)) (flM d 0 l).length 0 (flP d (-1) 0 l) := by
  refine told_all _ _ d 0 0 (-1) l (fun i hi => ?_) rfl (by omega) (.inl (by omega))
  rw [Nat.zero_add]
  unfold nD nAt
  rw [List.getD_eq_getElem?_getD, List.getElem?_map, List.getElem?_eq_getElem hi]
  exact nd0_d _ (flM_pos d 0 l _ (List.getElem_mem hi))
theorem docN_eq (d : Nat) (l : List (St d)) (i : Nat) (hi : i < (flM d 0 l).length) (hi' : i < (flP d (-1) 0 l).length) : plN ((flM d 0 l).map nd0) i = docN (nD ((flM d 0 l).map nd0) i) i ((flP d (-1) 0 l)[i]) := by
  obtain ⟨h1, h2⟩ := told_top d l i hi'
  rw [Nat.zero_add] at h1 h2
  have hx : ((flP d (-1) 0 l)[i]).2 = ((flM d 0 l)[i]).2 := by
    have := congrArg (fun z => z[i]?) (flP_st d 0 (-1) 0 l)
    simp only [List.getElem?_map, List.getElem?_eq_getElem hi, List.getElem?_eq_getElem hi', Option.map_some, Option.some.injEq] at this
    exact this
  have ha : nAt ((flM d 0 l).map nd0) i = nd0 ((flM d 0 l)[i]) := by
    unfold nAt
    rw [List.getD_eq_getElem?_getD, List.getElem?_map, List.getElem?_eq_getElem hi]
    rfl
  have hpos := flM_pos d 0 l _ (List.getElem_mem hi)
  unfold plN
  rw [List.length_map, ← h1, h2, ha]
  generalize (flP d (-1) 0 l)[i] = x at *
  generalize (flM d 0 l)[i] = y at *
  obtain ⟨k, e, t⟩ := y
  obtain ⟨p, s⟩ := x
  simp only at hx
  subst hx
  cases e with
  | zero => exact absurd rfl hpos
  | succ e =>
    have hz := flM_nil e 0 t.2
    show (_, (p, _, ((i + 1 + (flM e 0 t.2).length : Nat) : Int)), (_, _, decide (i + 1 + (flM e 0 t.2).length = i + 1))) = (_, (p, _, ((i + 1 + (flM e 0 t.2).length : Nat) : Int)), (_, _, decide (t.2.length = 0)))
    have hd : decide (i + 1 + (flM e 0 t.2).length = i + 1) = decide (t.2.length = 0) := by
      rw [decide_eq_decide, ← hz]
      omega
    rw [hd]
    rfl
end Go.Proofs.Ytoankfbccofllaa

/- What the program's stripVar is, and each over variables. -/
namespace Go.Proofs.Ytoankfbccofllaa
open Go.RowKit Go.Lib
set_option linter.unusedSimpArgs false
set_option linter.unusedVariables false
attribute [local go_sem ↓] Go.wp_at_zero Go.wp_at_succ

theorem Try.infoEVar : (Try.prog.info? 69).map (fun i => (i.zero, i.size, i.bytes)) = some (some (.agg #[.string ⟨#[]⟩, .int .i64 0, .int .i64 0, .int .i64 0]), 4, 40) := by kernel_rfl
theorem cvar_res {w4 : World} {R : Nat} {a b c d : Value} {tmps : Array Value} (hR : Bn w4 R [a, b, c, d]) (ht : tmps.getD 2 undef = .pointer (some ⟨R, 0, none⟩)) : (results Try.f38 tmps).run Try.prog w4 = .ok (.agg #[a, b, c, d]) w4 := by
  have ht' : tmps[2]?.getD undef = .pointer (some ⟨R, 0, none⟩) := by simpa using ht
  have c0 := (hR 0 _ rfl).1
  have c1 := (hR 1 _ rfl).1
  have c2 := (hR 2 _ rfl).1
  have c3 := (hR 3 _ rfl).1
  simp [results, Try.results38, go_sem, ht', c0, c1, c2, c3]
set_option maxRecDepth 100000 in
set_option maxHeartbeats 8000000 in
theorem svar_any (w : World) (nm : ByteArray) (x pl pc : Int) (h1 : nm.size ≤ 140737488351232) : Calls Try.prog 38 #[.agg #[.string nm, .int .i64 x, .int .i64 pl, .int .i64 pc]] w fun e w' => e = .returned (.agg #[.string nm, .int .i64 x, .int .i64 0, .int .i64 0]) ∧ Below w.heap.size w w' := by
  have g1 := fun w1 => pClone_any nm w1 h1
  have hal : Below w.heap.size w ((w.alloc (.cells #[.string nm, .int .i64 x, .int .i64 pl, .int .i64 pc] 69)).alloc (.cells #[.string ⟨#[]⟩, .int .i64 0, .int .i64 0, .int .i64 0] 69)) := ((Below.refl w.heap.size w).alloc (Nat.le_refl _) _).alloc (by simp) _
  have hX : Bn ((w.alloc (.cells #[.string nm, .int .i64 x, .int .i64 pl, .int .i64 pc] 69)).alloc (.cells #[.string ⟨#[]⟩, .int .i64 0, .int .i64 0, .int .i64 0] 69)) w.heap.size [.string nm, .int .i64 x, .int .i64 pl, .int .i64 pc] := (Bn.new w [.string nm, .int .i64 x, .int .i64 pl, .int .i64 pc] 69 _ rfl).on ((Below.refl _ _).alloc (Nat.le_refl _) _)
  have hR : Bn ((w.alloc (.cells #[.string nm, .int .i64 x, .int .i64 pl, .int .i64 pc] 69)).alloc (.cells #[.string ⟨#[]⟩, .int .i64 0, .int .i64 0, .int .i64 0] 69)) (w.heap.size + 1) [.string ⟨#[]⟩, .int .i64 0, .int .i64 0, .int .i64 0] := Bn.new (w.alloc (.cells #[.string nm, .int .i64 x, .int .i64 pl, .int .i64 pc] 69)) [.string ⟨#[]⟩, .int .i64 0, .int .i64 0, .int .i64 0] 69 _ (by simp)
  go_enter Try.func38, Try.ntmps38
  go_upto_region 1 with fail
  generalize ((w.alloc (.cells #[.string nm, .int .i64 x, .int .i64 pl, .int .i64 pc] 69)).alloc (.cells #[.string ⟨#[]⟩, .int .i64 0, .int .i64 0, .int .i64 0] 69)) = wx at *
  have hB : Below wx.heap.size wx wx := Below.refl _ _
  obtain ⟨c0, _⟩ := hX 0 _ rfl
  obtain ⟨c1, _⟩ := hX 1 _ rfl
  have hlt := hX.lt
  obtain ⟨S, hS⟩ : ∃ S, w.heap.size = S := ⟨_, rfl⟩
  rw [hS] at c0 c1 hlt hR ⊢
  have HS : Hid (w.heap.size = S) := hS
  clear hX hS
  have n1 : S ≠ S + 1 := by omega
  have y0 := c0
  have y1 := c1
  go_region_held_law (fun w' => w'.cell? ⟨S, 0, none⟩ = some (.string nm) ∧ w'.cell? ⟨S, 1, none⟩ = some (.int .i64 x))
    ((refine ⟨?_, ?_⟩ <;> (repeat (first | (with_reducible exact y0) | (with_reducible exact y1) | (with_reducible refine cell_dr ?_) | (with_reducible refine cell_far4 (ne_pt n1) ?_))) <;> done))
    (first
      | (go_at_call 19; (with_reducible refine (g1 _).mono ?_); rintro e w1 ⟨rfl, b1⟩; (first | have hB := Below.nxd hB b1 | have hB := Below.nx hB b1); have hR1 := hR.on hB; obtain ⟨r0, f0⟩ := hR1 0 _ rfl; obtain ⟨r1, f1⟩ := hR1 1 _ rfl; obtain ⟨r2, f2⟩ := hR1 2 _ rfl; obtain ⟨r3, f3⟩ := hR1 3 _ rfl; have y0 := (hB.cell (p := ⟨S, 0, none⟩) hlt).trans c0; have y1 := (hB.cell (p := ⟨S, 1, none⟩) hlt).trans c1)
      | fail)
  all_goals (
    have hR2 := (((hR1.set (i := 0) (by simp) (.string nm)).set (i := 1) (by simp) (.int .i64 x)).set (i := 2) (by simp) (.int .i64 0)).set (i := 3) (by simp) (.int .i64 0)
    have hb2 := putL_below [.string nm, .int .i64 x, .int .i64 0, .int .i64 0] w1 (S + 1) 0 (hal.trans (hB.mono (by have := hal.size; omega))) (by have := HS.out; omega)
    go_wp2
    exact bodyPost_ret (cvar_res hR2 rfl) rfl ⟨rfl, hb2⟩)
def spV (v : List UInt8 × Int × Pl) : List UInt8 × Int × Pl := (v.1, v.2.1, (0, 0))
theorem varQ_at {ok : Nat → Prop} {w : World} {l : List (List UInt8 × Int × Pl)} {a : Option Addr} {n cap : Nat} (h : RdK ok w 4 (rVar ok w) l (.slice a n cap)) (j : Nat) (hj : j < l.length) : ∃ b off, a = some ⟨b, off, none⟩ ∧ b < w.heap.size ∧ ∀ i u, (varV l[j])[i]? = some u → w.cell? ⟨b, off + j * 4 + i, none⟩ = some u := by
  obtain ⟨a1, cap1, he, h1, h2, h3⟩ := h
  simp only [Value.slice.injEq] at he
  obtain ⟨rfl, rfl, rfl⟩ := he
  obtain ⟨b, off, cs, ha, _, hb, hl, hr, hc⟩ := h3 j hj
  have hr : cs = varV l[j] := hr
  subst hr
  exact ⟨b, off, ha, hb, hc⟩
set_option maxRecDepth 100000 in
set_option maxHeartbeats 8000000 in
theorem eachVar_any {ok : Nat → Prop} {w : World} {l : List (List UInt8 × Int × Pl)} {v : Value} (h : RdK ok w 4 (rVar ok w) l v) (hl : l.length ≤ 100000) (hok : ∀ s ∈ l, s.1.length ≤ 140737488351232) :
    Calls Try.prog 37 #[v, .func (.func 38) #[] #[]] w fun e w' => ∃ u, e = .returned u ∧ RdK (Nw w.heap.size w') w' 4 (rVar (Nw w.heap.size w') w') (l.map spV) u ∧ Below w.heap.size w w' := by
  obtain ⟨ie, hie, hie0, hie1, hie2⟩ := info_parts Try.infoEVar
  obtain ⟨a, cap, rfl, hlc, hcm⟩ := h.form
  unfold maxLen at hcm
  have HC := mkHid h
  have HK := mkHid hok
  obtain ⟨n, hn⟩ : ∃ n, l.length = n := ⟨_, rfl⟩
  rw [hn] at hlc hl ⊢
  have HN : Hid (l.length = n) := hn
  clear h hok hn
  have hmk := run_make (P := Try.prog) w 34 69 ie _ Try.underlying34 hie hie0 .i64 .i64 (n : Int) (n : Int) (by omega) (by omega) (by rw [hie2]; omega) (by omega)
  rw [Int.toNat_natCast, hie1] at hmk
  have hG0 : RowG (w.alloc (.cells (madeCells (.agg #[.string ⟨#[]⟩, .int .i64 0, .int .i64 0, .int .i64 0] : Value).cells (n * 4)) 69)) w.heap.size 4 n rVar ([] : List (List UInt8 × Int × Pl)) := RowG.made w _ 4 n _ _
  have hb0 : Below w.heap.size w (w.alloc (.cells (madeCells (.agg #[.string ⟨#[]⟩, .int .i64 0, .int .i64 0, .int .i64 0] : Value).cells (n * 4)) 69)) := (Below.refl _ _).alloc (Nat.le_refl _) _
  have hs0 : (w.alloc (.cells (madeCells (.agg #[.string ⟨#[]⟩, .int .i64 0, .int .i64 0, .int .i64 0] : Value).cells (n * 4)) 69)).heap.size = w.heap.size + 1 := by simp
  generalize w.alloc (.cells (madeCells (.agg #[.string ⟨#[]⟩, .int .i64 0, .int .i64 0, .int .i64 0] : Value).cells (n * 4)) 69) = w0 at *
  go_enter Try.func37, Try.ntmps37
  go_wp2
  go_loopw [13] (fun ix wr => ∃ (i : Nat), i ≤ n ∧ ix = .int .i64 (i : Int) ∧ RowG wr w.heap.size 4 n rVar ((l.map spV).take i) ∧ Below w.heap.size w wr ∧ w.heap.size < wr.heap.size) (fun ix _ => n - (RowKit.intOf ix).toNat)
  case atStart => exact ⟨0, Nat.zero_le _, rfl, hG0, hb0, by omega⟩
  case round =>
    obtain ⟨i, hi, rfl, hRow, hb, hGs⟩ := hrel
    clear hG0 hb0 hs0 hmk
    by_cases hlt : i < n
    · have hil : i < l.length := by rw [HN.out]; exact hlt
      obtain ⟨b, off, rfl, hbl, hc⟩ := varQ_at HC.out i hil
      have hko := HK.out _ (List.getElem_mem hil)
      obtain ⟨q, hq⟩ : ∃ q, l[i] = q := ⟨_, rfl⟩
      rw [hq] at hc hko
      obtain ⟨nm, hnm⟩ : ∃ nm : ByteArray, ⟨q.1.toArray⟩ = nm := ⟨_, rfl⟩
      have hz1 : nm.size ≤ 140737488351232 := by rw [← hnm]; show q.1.toArray.size ≤ _; simpa using hko
      obtain ⟨x, hx⟩ : ∃ x, q.2.1 = x := ⟨_, rfl⟩
      obtain ⟨pl, hpl⟩ : ∃ x, q.2.2.1 = x := ⟨_, rfl⟩
      obtain ⟨pc, hpc⟩ : ∃ x, q.2.2.2 = x := ⟨_, rfl⟩
      have hv : varV q = [.string nm, .int .i64 x, .int .i64 pl, .int .i64 pc] := by unfold varV sV; rw [hnm, hx, hpl, hpc]
      have hv2 : varV (spV q) = [.string nm, .int .i64 x, .int .i64 0, .int .i64 0] := by
        show [sV q.1, .int .i64 q.2.1, .int .i64 0, .int .i64 0] = _
        unfold sV; rw [hnm, hx]
      rw [hv] at hc
      have HQ : Hid (l[i] = q) := hq
      have HV2 : Hid (varV (spV q) = [.string nm, .int .i64 x, .int .i64 0, .int .i64 0]) := hv2
      clear hq hko hnm hx hpl hpc hv hv2
      obtain ⟨acc, hac⟩ : ∃ acc, (l.map spV).take i = acc := ⟨_, rfl⟩
      have hla : acc.length = i := by rw [← hac]; simp [HN.out]; omega
      rw [hac] at hRow
      have HAC : Hid ((l.map spV).take i = acc) := hac
      clear hac
      have i1 : (i : Int) < (n : Int) := by omega
      have i2 : (0 : Int) ≤ (i : Int) := by omega
      have C0 := (hb.cell (p := ⟨b, off + i * 4 + 0, none⟩) hbl).trans (hc 0 _ rfl)
      have C1 := (hb.cell (p := ⟨b, off + i * 4 + 1, none⟩) hbl).trans (hc 1 _ rfl)
      have C2 := (hb.cell (p := ⟨b, off + i * 4 + 2, none⟩) hbl).trans (hc 2 _ rfl)
      have C3 := (hb.cell (p := ⟨b, off + i * 4 + 3, none⟩) hbl).trans (hc 3 _ rfl)
      rw [Nat.add_zero] at C0
      clear hc
      have hal := (Below.refl wr.heap.size wr).alloc (Nat.le_refl _) (.cells #[.string nm, .int .i64 x, .int .i64 pl, .int .i64 pc] 69)
      have hX := Bn.new wr [.string nm, .int .i64 x, .int .i64 pl, .int .i64 pc] 69 _ rfl
      have hRx := hRow.on kp_var hGs hal
      have hbx := hb.trans (hal.mono hb.size)
      have hGx := Nat.lt_of_lt_of_le hGs hal.size
      have hcall : ∀ w1, Below w.heap.size w w1 → Calls Try.prog 38 #[.agg #[.string nm, .int .i64 x, .int .i64 pl, .int .i64 pc]] w1 fun e w' => e = .returned (.agg #[.string nm, .int .i64 x, .int .i64 0, .int .i64 0]) ∧ Below w1.heap.size w1 w' := fun w1 _ => svar_any w1 nm x pl pc hz1
      go_upto_region 5 with fail
      clear C0 C1 C2 C3 hal
      generalize wr.alloc (.cells #[.string nm, .int .i64 x, .int .i64 pl, .int .i64 pc] 69) = wx at *
      obtain ⟨X, hXX⟩ : ∃ X, wr.heap.size = X := ⟨_, rfl⟩
      rw [hXX] at hX ⊢
      have HXX : Hid (wr.heap.size = X) := hXX
      clear hXX
      obtain ⟨x0, _⟩ := hX 0 _ rfl
      obtain ⟨x1, _⟩ := hX 1 _ rfl
      obtain ⟨x2, _⟩ := hX 2 _ rfl
      obtain ⟨x3, _⟩ := hX 3 _ rfl
      go_wp2_with (first
        | (go_at_call 38; refine (hcall _ hbx).mono ?_; rintro e w1 ⟨rfl, b1⟩; have hp : rVar (Nw (w.heap.size + 1) w1) w1 (spV q) [.string nm, .int .i64 x, .int .i64 0, .int .i64 0] := (HV2.out.symm); have hR1 := hRx.on kp_var hGx b1; obtain ⟨⟨r0, q0⟩, z0⟩ := hR1.1 (i * 4 + 0) (mul_in hlt (by omega)); obtain ⟨⟨r1, q1⟩, z1⟩ := hR1.1 (i * 4 + 1) (mul_in hlt (by omega)); obtain ⟨⟨r2, q2⟩, z2⟩ := hR1.1 (i * 4 + 2) (mul_in hlt (by omega)); obtain ⟨⟨r3, q3⟩, z3⟩ := hR1.1 (i * 4 + 3) (mul_in hlt (by omega)); rw [Nat.add_zero] at q0 z0)
        | fail)
      have hP := hR1.put kp_var (x := spV q) (cs := [.string nm, .int .i64 x, .int .i64 0, .int .i64 0]) (by rw [hla]; exact hlt) rfl hp
      rw [hla] at hP
      have hb2 := putL_below [.string nm, .int .i64 x, .int .i64 0, .int .i64 0] w1 w.heap.size (i * 4) (hbx.trans (b1.mono (Nat.le_of_lt hGx))) (Nat.le_refl _)
      have hs2 : w.heap.size < (putL w1 w.heap.size (i * 4) [.string nm, .int .i64 x, .int .i64 0, .int .i64 0]).heap.size := by rw [putL_size]; exact Nat.lt_of_lt_of_le hGx b1.size
      have hac2 : (l.map spV).take (i + 1) = acc ++ [spV q] := by
        rw [List.take_succ_eq_append_getElem (by simp [HN.out]; omega), HAC.out]
        simp [HQ.out]
      clear x0 r0 q0 z0 x1 r1 q1 z1 x2 r2 q2 z2 x3 r3 q3 z3 hR1 hRx hp
      go_wp2
      go_roundw
      case rel => exact ⟨i + 1, hlt, by go_num, by rw [hac2]; exact hP, hb2, hs2⟩
      case measure => simp [RowKit.intOf]; omega
    · have i1 : ¬ (i : Int) < (n : Int) := by omega
      have hin : i = n := by omega
      have hfull : (l.map spV).take i = l.map spV := List.take_of_length_le (by simp [HN.out]; omega)
      rw [hfull] at hRow
      have hrd := hRow.rd kp_var hGs (by simp [HN.out]) (by unfold maxLen; omega)
      go_wp2
      go_ret
      exact ⟨_, rfl, hrd, hb⟩
/-- A flat state's cells. -/
theorem fl_at {ok ok' : Nat → Prop} {W w : World} {l : List (Int × SgS)} {a : Option Addr} {n cap : Nat} (h : RdK ok' w 12 (rFl ok W ok' w) l (.slice a n cap)) (j : Nat) (hj : j < l.length) : ∃ b off e t p1 p3 p4 p6, a = some ⟨b, off, none⟩ ∧ ok' b ∧ b < w.heap.size ∧ l[j].2 = ⟨e + 1, t⟩ ∧ RdK ok W 11 (rStD e ok W) t.2 (.slice p4 t.2.length p6) ∧ ∀ i u, (hdD t.1 (.slice p1 t.1.2.2.2.2.length p3) (.slice p4 t.2.length p6) ++ [.int .i64 l[j].1])[i]? = some u → w.cell? ⟨b, off + j * 12 + i, none⟩ = some u := by
  obtain ⟨a1, cap1, he, h1, h2, h3⟩ := h
  simp only [Value.slice.injEq] at he
  obtain ⟨rfl, rfl, rfl⟩ := he
  obtain ⟨b, off, cs, ha, ho, hb, hl, ⟨cs0, hs, rfl⟩, hc⟩ := h3 j hj
  generalize l[j] = x at *
  obtain ⟨p, e, t⟩ := x
  cases e with
  | zero => exact Empty.elim t
  | succ e =>
    obtain ⟨so, si, rfl, ho', hi'⟩ := hs
    obtain ⟨s1, s3, rfl, _⟩ := ho'.form
    obtain ⟨s4, s6, rfl, _⟩ := hi'.form
    exact ⟨b, off, e, t, s1, s3, s4, s6, ha, ho, hb, rfl, hi', hc⟩
theorem nds_at {d : Nat} {l : List (St d)} (h40 : (flM d 0 l).length ≤ 40) (i : Nat) (hi : i < (flM d 0 l).length) : nAt (ndsM (flM d 0 l)) i = plN ((flM d 0 l).map nd0) i := by
  unfold ndsM nAt
  rw [if_pos h40, List.getD_eq_getElem?_getD, List.getElem?_map, List.getElem?_range hi]
  rfl
theorem nds_p {d : Nat} {l : List (St d)} (h40 : (flM d 0 l).length ≤ 40) (i : Nat) (hi : i < (flM d 0 l).length) (hi' : i < (flP d (-1) 0 l).length) : nP (ndsM (flM d 0 l)) i = ((flP d (-1) 0 l)[i]).1 := by
  obtain ⟨h1, _⟩ := told_top d l i hi'
  rw [Nat.zero_add] at h1
  unfold nP
  rw [nds_at h40 i hi, h1]
  rfl
theorem nds_dep {d : Nat} {l : List (St d)} (h40 : (flM d 0 l).length ≤ 40) (i : Nat) (hi : i < (flM d 0 l).length) : nD ((flM d 0 l).map nd0) i = (dpR (nP (ndsM (flM d 0 l))) i (nP (ndsM (flM d 0 l)) i) : Nat) := by
  have hf := ndsM_formed d l
  unfold fmB at hf
  rw [decide_eq_true_eq, fm_same] at hf
  have hlen : (ndsM (flM d 0 l)).length = (flM d 0 l).length := by unfold ndsM; rw [if_pos h40]; simp
  have h2 := (hf.2 i (by rw [hlen]; exact hi)).2.1
  have h3 : nD (ndsM (flM d 0 l)) i = nD ((flM d 0 l).map nd0) i := by
    unfold nD
    rw [nds_at h40 i hi]
    rfl
  rw [← h3]
  exact h2
theorem nds_ahd {d : Nat} {l : List (St d)} (h40 : (flM d 0 l).length ≤ 40) : Ahd (flM d 0 l).length (nP (ndsM (flM d 0 l))) := by
  intro i hi
  have hl := ppar_lt (nD ((flM d 0 l).map nd0)) (nD ((flM d 0 l).map nd0) i) i
  unfold nP
  rw [nds_at h40 i hi]
  exact hl
theorem docN_cells {e : Nat} {t : St (e + 1)} {sn : ByteArray} {sl sc : Int} {sb se : Bool} {sd su : ByteArray} {sw sr : Int} (hsv : hdD t.1 = (fun so si => [.string sn, .int .i64 sl, .int .i64 sc, .bool sb, .bool se, .string sd, .string su, .int .i64 sw, .int .i64 sr, so, si])) (dp pp : Int) (i : Nat) :
    ndV (docN dp i (pp, ⟨e + 1, t⟩)) = [.string sn, .int .i64 pp, .int .i64 dp, .int .i64 ((i + 1 + (flM e 0 t.2).length : Nat) : Int), .bool sb, .bool se, .bool (decide (t.2.length = 0))] := by
  have h := congrFun (congrFun hsv .nilIface) .nilIface
  unfold hdD at h
  simp only [List.cons.injEq, Value.bool.injEq] at h
  obtain ⟨h1, _, _, h4, h5, _⟩ := h
  show [Value.string ⟨t.1.1.1.toArray⟩, .int .i64 pp, .int .i64 dp, _, .bool t.1.2.1.1, .bool t.1.2.1.2, _] = _
  rw [h4, h5]
  have h1' : Value.string ⟨t.1.1.1.toArray⟩ = .string sn := h1
  rw [h1']
  rfl
set_option maxRecDepth 100000 in
set_option maxHeartbeats 16000000 in
theorem nodesD_any {ok : Nat → Prop} {w : World} {d : Nat} {l : List (St d)} (g0 : ByteArray) (g1 g2 g3 : Int) (g4 g7 : Option Addr) (g5 g6 g8 g9 : Nat) (h : RdK ok w 11 (rStD d ok w) l (.slice g7 g8 g9)) (hn : (flM d 0 l).length ≤ 400) :
    Calls Try.prog 9 #[.agg #[.string g0, .int .i64 g1, .int .i64 g2, .int .i64 g3, .slice g4 g5 g6, .slice g7 g8 g9]] w fun e w' => ∃ a n c, e = .returned (.slice a n c) ∧ RdNd (fun b => w.heap.size ≤ b) w' (ndsM (flM d 0 l)) (.slice a n c) ∧ Below w.heap.size w w' := by
  have hal : Below w.heap.size w (w.alloc (.cells #[.string g0, .int .i64 g1, .int .i64 g2, .int .i64 g3, .slice g4 g5 g6, .slice g7 g8 g9] 27)) := (Below.refl w.heap.size w).alloc (Nat.le_refl _) _
  have hX : Bn (w.alloc (.cells #[.string g0, .int .i64 g1, .int .i64 g2, .int .i64 g3, .slice g4 g5 g6, .slice g7 g8 g9] 27)) w.heap.size [.string g0, .int .i64 g1, .int .i64 g2, .int .i64 g3, .slice g4 g5 g6, .slice g7 g8 g9] := Bn.new w [.string g0, .int .i64 g1, .int .i64 g2, .int .i64 g3, .slice g4 g5 g6, .slice g7 g8 g9] 27 _ rfl
  have hA := fun w1 (b1 : Below w.heap.size w w1) => allD_any h b1 (by omega)
  have HLN := hidOf (flP_len d 0 (-1) 0 l)
  have HDE := hidOf (fun i hi hi' => docN_eq d l i hi hi')
  go_enter Try.func9, Try.ntmps9
  go_upto_region 1 with fail
  generalize (w.alloc (.cells #[.string g0, .int .i64 g1, .int .i64 g2, .int .i64 g3, .slice g4 g5 g6, .slice g7 g8 g9] 27)) = wx at *
  obtain ⟨x5, _⟩ := hX 5 _ rfl
  go_upto_region 2 with (first | (go_at_call 14; refine (hA _ hal).mono ?_; rintro e w1 ⟨fa, fn, fc, rfl, hF, b1⟩) | fail)
  have hb1 := hal.trans (b1.mono hal.size)
  obtain ⟨_, _, he, hfc, hfm⟩ := hF.form
  simp only [Value.slice.injEq] at he
  obtain ⟨rfl, hfn, rfl⟩ := he
  rw [HLN.out] at hfn
  clear hA hX x5 hal b1
  by_cases h40 : 40 < fn
  · have i1 : (fn : Int) > 40 := by omega
    have e0 : ndsM (flM d 0 l) = [] := by unfold ndsM; rw [if_neg (by omega)]
    have HE := hidOf e0
    clear e0
    go_wp2
    go_ret
    exact ⟨_, _, _, rfl, by rw [HE.out]; exact rdK_none _ _ _ _, hb1⟩
  · have i1 : ¬ (fn : Int) > 40 := by omega
    have hRd := hF.rd (kp_fl ok w)
    have HRD := hidOf hRd
    have HF := hidOf hF
    have HTL := hidOf (told_top d l)
    have HFN := hidOf hfn
    clear hF hRd hfn h
    obtain ⟨i0, hi, hz0, hz1, hz2⟩ := info_parts Try.infoNdR
    go_wp2
    go_loopw [4, 16] (fun t ix wr => ∃ (i : Nat), i ≤ fn ∧ ix = .int .i64 (i : Int) ∧ OwnK wr w1.heap.size 61 7 rNd t ((List.range i).map (plN ((flM d 0 l).map nd0))) ∧ Below w1.heap.size w1 wr) (fun _ ix _ => fn - (RowKit.intOf ix).toNat)
    case atStart => exact ⟨0, Nat.zero_le _, rfl, ownK_nil _ _ _ _ _, Below.refl _ _⟩
    case round =>
      obtain ⟨i, hi1, rfl, hO, hb⟩ := hrel
      by_cases hlt : i < fn
      · have hil : i < (flP d (-1) 0 l).length := by rw [HLN.out, ← HFN.out]; exact hlt
        obtain ⟨b, off, e, t, p1, p3, p4, p6, rfl, _, hbl, hx, hIn, hc⟩ := fl_at HRD.out i hil
        have htl := (HTL.out i hil).2
        rw [hx] at htl
        have hle := (pbeh_le (nD ((flM d 0 l).map nd0)) (nD ((flM d 0 l).map nd0) (0 + i)) ((flM d 0 l).length - (0 + i + 1)) (0 + i + 1)).2
        rw [htl] at hle
        have hin4 : (flM e 0 t.2).length ≤ 400 := by
          have : inS ⟨e + 1, t⟩ = (flM e 0 t.2).length := rfl
          rw [this] at hle
          omega
        clear htl hle
        have hA2 := fun w2 (b2 : Below w.heap.size w w2) => allD_any hIn b2 (by omega)
        have HLE := hidOf (flP_len e 0 (-1) 0 t.2)
        obtain ⟨sn, sl, sc, sb, se, sd, su, sw, sr, hsv, _, _, _⟩ := hdD_let t.1
        rw [hsv] at hc
        have C0 := (hb.cell (p := ⟨b, off + i * 12 + 0, none⟩) hbl).trans (hc 0 _ rfl)
        have C3 := (hb.cell (p := ⟨b, off + i * 12 + 3, none⟩) hbl).trans (hc 3 _ rfl)
        have C4 := (hb.cell (p := ⟨b, off + i * 12 + 4, none⟩) hbl).trans (hc 4 _ rfl)
        have C10 := (hb.cell (p := ⟨b, off + i * 12 + 10, none⟩) hbl).trans (hc 10 _ rfl)
        have C11 := (hb.cell (p := ⟨b, off + i * 12 + 11, none⟩) hbl).trans (hc 11 _ rfl)
        rw [Nat.add_zero] at C0
        obtain ⟨z, hz⟩ : ∃ z, t.2.length = z := ⟨_, rfl⟩
        rw [hz] at C10
        simp only [hz] at hA2
        obtain ⟨pp, hpp⟩ : ∃ pp, ((flP d (-1) 0 l)[i]).1 = pp := ⟨_, rfl⟩
        rw [hpp] at C11
        have HX := hidOf hx
        have HPP := hidOf hpp
        have HSV := hidOf hsv
        clear hc hx hpp hsv hIn
        have i3 : (i : Int) < (fn : Int) := by omega
        have i4 : (0 : Int) ≤ (i : Int) := by omega
        have hbw : Below w.heap.size w wr := hb1.trans (hb.mono hb1.size)
        obtain ⟨va, vc, hv, hvl, hvm⟩ := hO.form
        rw [List.length_map, List.length_range] at hv hvl
        subst hv
        have hblr : b < wr.heap.size := Nat.lt_of_lt_of_le hbl hb.size
        have nr1 : b ≠ wr.heap.size := by omega
        have nr2 := nr1
        have hilM : i < (flM d 0 l).length := by rw [← HFN.out]; exact hlt
        have hM40 : (flM d 0 l).length ≤ 40 := by rw [← HFN.out]; omega
        obtain ⟨BV, hBV⟩ : ∃ x : Int, ((i + 1 + (flM e 0 t.2).length : Nat) : Int) = x := ⟨_, rfl⟩
        obtain ⟨DV, hDV⟩ : ∃ x, dpR (nP (ndsM (flM d 0 l))) i pp = x := ⟨_, rfl⟩
        have hpn : nP (ndsM (flM d 0 l)) i = pp := (nds_p hM40 i hilM hil).trans HPP.out
        have HDV : Hid (nD ((flM d 0 l).map nd0) i = (DV : Int)) := by
          show _ = _
          rw [nds_dep hM40 i hilM, hpn, hDV]
        have HAH := hidOf (nds_ahd hM40)
        have HDL : Hid (DV ≤ i) := by show _ ≤ _; rw [← hDV]; exact dpR_le (n := (flM d 0 l).length) i pp
        have hpp1 : -1 ≤ pp ∧ pp < i := by rw [← hpn]; exact HAH.out i hilM
        have HST : Hid (0 + dpR (nP (ndsM (flM d 0 l))) (pp + 1).toNat pp = DV) := by
          show _ = _
          rw [← hDV, dpR_more HAH.out i pp hpp1.1 hpp1.2 (by omega), Nat.zero_add]
        have HEL : Hid (plN ((flM d 0 l).map nd0) i = docN (DV : Int) i (pp, ⟨e + 1, t⟩)) := by
          show _ = _
          rw [HDE.out i hilM hil, HDV.out]
          have : ((flP d (-1) 0 l)[i]) = (pp, ⟨e + 1, t⟩) := Prod.ext HPP.out HX.out
          rw [this]
        have HCS : Hid (∀ dp : Int, ndV (docN dp i (pp, ⟨e + 1, t⟩)) = [.string sn, .int .i64 pp, .int .i64 dp, .int .i64 BV, .bool sb, .bool se, .bool (decide (z = 0))]) := fun dp => by
          rw [docN_cells HSV.out dp pp i, hBV, hz]
        have HBV := hidOf hBV
        have HBV1 : Hid (BV = (i : Int) + 1 + ((flM e 0 t.2).length : Int)) := by show _ = _; rw [← hBV]; push_cast; rfl
        have HCE : Hid (∀ kn, kn < fn → w1.cell? ⟨b, off + kn * 12 + 11, none⟩ = some (.int .i64 (nP (ndsM (flM d 0 l)) kn))) := fun kn hkn => by
          have hkl : kn < (flP d (-1) 0 l).length := by rw [HLN.out, ← HFN.out]; exact hkn
          obtain ⟨b2, off2, e2, t2, _, _, _, _, h2, _, _, _, _, hc2⟩ := fl_at HRD.out kn hkl
          simp only [Option.some.injEq, Addr.mk.injEq, and_true] at h2
          obtain ⟨rfl, rfl⟩ := h2
          have := hc2 11 _ rfl
          rw [nds_p hM40 kn (by rw [← HFN.out]; exact hkn) hkl]
          exact this
        clear hpn hDV hBV hz
        go_upto_region 8 with fail
        go_cut [6] (fun u6 wc => ∃ B, u6 = .pointer (some ⟨B, 0, none⟩) ∧ wr.heap.size ≤ B ∧ Bn wc B [.string sn, .int .i64 pp, .int .i64 0, .int .i64 BV, .bool sb, .bool se, .bool (decide (z = 0))] ∧ Below wr.heap.size wr wc)
        case first =>
          go_region_held_law (fun w' => w'.cell? ⟨b, off + i * 12, none⟩ = some (.string sn) ∧ w'.cell? ⟨b, off + i * 12 + 3, none⟩ = some (.bool sb) ∧ w'.cell? ⟨b, off + i * 12 + 4, none⟩ = some (.bool se) ∧ w'.cell? ⟨b, off + i * 12 + 10, none⟩ = some (.slice p4 z p6) ∧ w'.cell? ⟨b, off + i * 12 + 11, none⟩ = some (.int .i64 pp))
            ((refine ⟨?_, ?_, ?_, ?_, ?_⟩ <;> (repeat (first | (with_reducible exact C0) | (with_reducible exact C3) | (with_reducible exact C4) | (with_reducible exact C10) | (with_reducible exact C11) | (with_reducible refine cell_al ?_) | (with_reducible refine cell_dr ?_) | (with_reducible refine cell_far4 (ne_pt nr1) ?_) | (with_reducible refine cell_far4 (ne_pt nr2) ?_))) <;> done))
            (first
              | (go_at_call 14; (with_reducible refine (hA2 _ hbw.drew).mono ?_); rintro e w2 ⟨ka, kn, kc, rfl, hK, b2⟩; have bw : Below wr.heap.size wr w2 := ((Below.refl _ wr).drew).trans b2; have nr2 : b ≠ w2.heap.size := (by have := bw.size; omega); have C0 := (bw.cell (p := ⟨b, off + i * 12, none⟩) hblr).trans C0; have C3 := (bw.cell (p := ⟨b, off + i * 12 + 3, none⟩) hblr).trans C3; have C4 := (bw.cell (p := ⟨b, off + i * 12 + 4, none⟩) hblr).trans C4; have C10 := (bw.cell (p := ⟨b, off + i * 12 + 10, none⟩) hblr).trans C10; have C11 := (bw.cell (p := ⟨b, off + i * 12 + 11, none⟩) hblr).trans C11; have hBx := Bn.new w2 [.string ⟨#[]⟩, .int .i64 0, .int .i64 0, .int .i64 0, .bool false, .bool false, .bool false] 61 _ rfl; obtain ⟨n0, m0⟩ := hBx 0 _ rfl; obtain ⟨n1, m1⟩ := hBx 1 _ rfl; obtain ⟨n2, m2⟩ := hBx 2 _ rfl; obtain ⟨n3, m3⟩ := hBx 3 _ rfl; obtain ⟨n4, m4⟩ := hBx 4 _ rfl; obtain ⟨n5, m5⟩ := hBx 5 _ rfl; obtain ⟨n6, m6⟩ := hBx 6 _ rfl)
              | (go_at_call 14; (with_reducible refine (hA2 _ (hbw.alloc hbw.size _).drew).mono ?_); rintro e w2 ⟨ka, kn, kc, rfl, hK, b2⟩; have bw : Below wr.heap.size wr w2 := (((Below.refl _ wr).alloc (Nat.le_refl _) _).drew).trans (b2.mono (by simp)); have C0 := (bw.cell (p := ⟨b, off + i * 12, none⟩) hblr).trans C0; have C3 := (bw.cell (p := ⟨b, off + i * 12 + 3, none⟩) hblr).trans C3; have C4 := (bw.cell (p := ⟨b, off + i * 12 + 4, none⟩) hblr).trans C4; have C10 := (bw.cell (p := ⟨b, off + i * 12 + 10, none⟩) hblr).trans C10; have C11 := (bw.cell (p := ⟨b, off + i * 12 + 11, none⟩) hblr).trans C11; have hBx : Bn w2 wr.heap.size [.string ⟨#[]⟩, .int .i64 0, .int .i64 0, .int .i64 0, .bool false, .bool false, .bool false] := (Bn.new wr [.string ⟨#[]⟩, .int .i64 0, .int .i64 0, .int .i64 0, .bool false, .bool false, .bool false] 61 _ rfl).blk (b2.block _ (by show wr.heap.size < (wr.alloc _).heap.size; simp)); obtain ⟨n0, m0⟩ := hBx 0 _ rfl; obtain ⟨n1, m1⟩ := hBx 1 _ rfl; obtain ⟨n2, m2⟩ := hBx 2 _ rfl; obtain ⟨n3, m3⟩ := hBx 3 _ rfl; obtain ⟨n4, m4⟩ := hBx 4 _ rfl; obtain ⟨n5, m5⟩ := hBx 5 _ rfl; obtain ⟨n6, m6⟩ := hBx 6 _ rfl)
              | fail)
          all_goals (
            have hkn : (kn : Int) = ((flM e 0 t.2).length : Int) := (by
              obtain ⟨_, _, hk, _⟩ := hK.form
              simp only [Value.slice.injEq] at hk
              rw [hk.2.1, HLE.out])
            have e1 : IntKind.i64.wrap (IntKind.i64.wrap ((i : Int) + 1) + (kn : Int)) = BV := (by
              have hBV1 := HBV1.out
              have q1 : IntKind.i64.wrap ((i : Int) + 1) = (i : Int) + 1 := (by rw [wrap_small] <;> omega)
              rw [q1, hkn, wrap_small] <;> omega)
            have e2 : ((z : Int) == 0) = decide (z = 0) := (by by_cases h : z = 0 <;> simp [h]))
          · rw [e1, e2]
            have hbz : Below wr.heap.size wr (w2.alloc (.cells #[.string sn, .int .i64 pp, .int .i64 0, .int .i64 BV, .bool sb, .bool se, .bool (decide (z = 0))] 61)) := bw.alloc bw.size _
            go_wp2
            go_meet
            case rel => exact ⟨w2.heap.size, rfl, bw.size, Bn.new w2 [.string sn, .int .i64 pp, .int .i64 0, .int .i64 BV, .bool sb, .bool se, .bool (decide (z = 0))] 61 _ rfl, hbz⟩
          · rw [e1, e2]
            have hBy := ((((((hBx.set (i := 0) (by simp) (.string sn)).set (i := 1) (by simp) (.int .i64 pp)).set (i := 2) (by simp) (.int .i64 0)).set (i := 3) (by simp) (.int .i64 BV)).set (i := 4) (by simp) (.bool sb)).set (i := 5) (by simp) (.bool se)).set (i := 6) (by simp) (.bool (decide (z = 0)))
            have hbz := putL_below [.string sn, .int .i64 pp, .int .i64 0, .int .i64 BV, .bool sb, .bool se, .bool (decide (z = 0))] w2 wr.heap.size 0 bw (Nat.le_refl _)
            go_wp2
            go_meet
            case rel => exact ⟨wr.heap.size, rfl, Nat.le_refl _, hBy, hbz⟩
        case rest =>
          obtain ⟨B, rfl, hB1, hBn, hbc⟩ := hcut
          have C11' := (hbc.cell (p := ⟨b, off + i * 12 + 11, none⟩) hblr).trans C11
          obtain ⟨wk, hwk⟩ : ∃ x, x = wc := ⟨_, rfl⟩
          subst hwk
          obtain ⟨w0, hw0⟩ : ∃ x, x = wr := ⟨_, rfl⟩
          subst hw0
          clear C0 C3 C4 C10 C11 hA2 HLE
          go_wp2
          go_loopw [7] (fun v7 wq => ∃ (dd : Nat) (k : Int), -1 ≤ k ∧ k < i ∧ v7 = .int .i64 k ∧ Hid (dd + dpR (nP (ndsM (flM d 0 l))) (k + 1).toNat k = DV) ∧ Bn wq B [.string sn, .int .i64 pp, .int .i64 (dd : Int), .int .i64 BV, .bool sb, .bool se, .bool (decide (z = 0))] ∧ Below w0.heap.size w0 wq) (fun v7 _ => (RowKit.intOf v7 + 1).toNat)
          case atStart => exact ⟨0, pp, hpp1.1, hpp1.2, rfl, HST, hBn, hbc⟩
          case round =>
            obtain ⟨dd, k, hk0, hk1, rfl, HO, hBq, hbq⟩ := hrel
            have hblq : b < w1.heap.size := hbl
            by_cases hneg : k < 0
            · have hdd : dd = DV := by
                rw [← HO.out]
                have : k = -1 := by omega
                rw [this]
                rfl
              subst hdd
              have i5 : ¬ (0 : Int) ≤ k := by omega
              obtain ⟨r0, _⟩ := hBq 0 _ rfl
              obtain ⟨r1, _⟩ := hBq 1 _ rfl
              obtain ⟨r2, _⟩ := hBq 2 _ rfl
              obtain ⟨r3, _⟩ := hBq 3 _ rfl
              obtain ⟨r4, _⟩ := hBq 4 _ rfl
              obtain ⟨r5, _⟩ := hBq 5 _ rfl
              obtain ⟨r6, _⟩ := hBq 6 _ rfl
              have hOq := hO.on kp_nd hbq
              have hws : w1.heap.size ≤ wr.heap.size := Nat.le_trans hb.size hbq.size
              go_wp2_with (first
                | (at_builtin; refine wpList_pushK wr rfl _ _ 30 rfl w1.heap.size 61 i0 (.agg #[.string ⟨#[]⟩, .int .i64 0, .int .i64 0, .int .i64 0, .bool false, .bool false, .bool false]) 7 48 Try.underlying30 hi hz0 hz1 hz2 rfl kp_nd (.slice va i vc) ((List.range i).map (plN ((flM d 0 l).map nd0))) (docN (dd : Int) i (pp, ⟨e + 1, t⟩)) [.string sn, .int .i64 pp, .int .i64 (dd : Int), .int .i64 BV, .bool sb, .bool se, .bool (decide (z = 0))] wr.heap.size rfl rfl rfl (by simp [Value.oneCell']) hOq (HCS.out _).symm hws (fun x hx => (OwnK.blk hOq x hx).2) (by rw [List.length_map, List.length_range]; omega) (by rw [List.length_map, List.length_range]; unfold maxLen; omega) hws ?_; intro vb wb hOb hgb hbb)
                | fail)
              have HOb : Hid (OwnK wb w1.heap.size 61 7 rNd vb ((List.range (i + 1)).map (plN ((flM d 0 l).map nd0)))) := by
                show OwnK _ _ _ _ _ _ _
                rw [List.range_succ, List.map_append, List.map_singleton, HEL.out]
                exact hOb
              have hbe : Below w1.heap.size w1 wb := (hb.trans (hbq.mono hb.size)).trans hbb
              clear hOb hgb hbb hOq r0 r1 r2 r3 r4 r5 r6 hBq hbq HO
              go_wp2
              go_roundw
              case rel => exact ⟨i + 1, hlt, by go_num, HOb.out, hbe⟩
              case measure => simp [RowKit.intOf]; omega
            · obtain ⟨kn, rfl⟩ : ∃ kn : Nat, k = kn := ⟨k.toNat, by omega⟩
              have i5 : (0 : Int) ≤ (kn : Int) := by omega
              have i6 : (kn : Int) < (fn : Int) := by omega
              have hA := HAH.out kn (by omega)
              have HO2 : Hid (dd + 1 + dpR (nP (ndsM (flM d 0 l))) (nP (ndsM (flM d 0 l)) kn + 1).toNat (nP (ndsM (flM d 0 l)) kn) = DV) := by
                have := HO.out
                rw [dpR_step HAH.out (by omega)] at this
                exact (Nat.add_assoc _ _ _).trans this
              have hdd : dd ≤ 40 := by
                have h1 := HO.out
                have h2 : DV ≤ i := HDL.out
                omega
              have k1 := (hbq.cell (p := ⟨b, off + kn * 12 + 11, none⟩) hblr).trans ((hb.cell (p := ⟨b, off + kn * 12 + 11, none⟩) hbl).trans (HCE.out kn (by omega)))
              obtain ⟨pk, hpk⟩ : ∃ x, nP (ndsM (flM d 0 l)) kn = x := ⟨_, rfl⟩
              rw [hpk] at k1 hA HO2
              obtain ⟨r2, f2⟩ := hBq 2 _ rfl
              have nBb : b ≠ B := by omega
              have k2 : (wr.setCell ⟨B, 2, none⟩ (.int .i64 ((dd + 1 : Nat) : Int))).cell? ⟨b, off + kn * 12 + 11, none⟩ = some (.int .i64 pk) := cell_far4 (ne_pt nBb) k1
              have e7 : IntKind.i64.wrap ((dd : Int) + 1) = ((dd + 1 : Nat) : Int) := by rw [wrap_small] <;> omega
              have e8 : ((dd : Int) + 1) = ((dd + 1 : Nat) : Int) := by omega
              have hBs : Bn (wr.setCell ⟨B, 2, none⟩ (.int .i64 ((dd + 1 : Nat) : Int))) B [.string sn, .int .i64 pp, .int .i64 ((dd + 1 : Nat) : Int), .int .i64 BV, .bool sb, .bool se, .bool (decide (z = 0))] := hBq.set (i := 2) (by simp) (.int .i64 ((dd + 1 : Nat) : Int))
              have hbs : Below w0.heap.size w0 (wr.setCell ⟨B, 2, none⟩ (.int .i64 ((dd + 1 : Nat) : Int))) := hbq.setCell (p := ⟨B, 2, none⟩) hB1 _
              clear hpk hneg hBq hbq
              obtain ⟨D1, hD1⟩ : ∃ x : Int, ((dd + 1 : Nat) : Int) = x := ⟨_, rfl⟩
              rw [hD1] at k2 e7 e8 hBs hbs
              go_wp2
              go_roundw
              case rel => exact ⟨dd + 1, pk, hA.1, by omega, rfl, HO2, by rw [hD1]; exact hBs, hbs⟩
              case measure => simp [RowKit.intOf]; omega
      · have i1 : ¬ (i : Int) < (fn : Int) := by omega
        obtain ⟨va, vc, hv, hvl, hvm⟩ := hO.form
        rw [List.length_map, List.length_range] at hv hvl
        subst hv
        have hin : i = (flM d 0 l).length := by rw [← HFN.out]; omega
        have HE : Hid (ndsM (flM d 0 l) = (List.range i).map (plN ((flM d 0 l).map nd0))) := by
          show _ = _
          unfold ndsM
          rw [if_pos (by rw [← HFN.out]; omega), ← hin]
        have hbe : Below w.heap.size w wr := hb1.trans (hb.mono hb1.size)
        have hOe := (hO.rd kp_nd).low kp_nd hb1.size
        clear hin
        go_wp2
        go_ret
        exact ⟨_, _, _, rfl, by rw [HE.out]; exact hOe, hbe⟩
end Go.Proofs.Ytoankfbccofllaa
