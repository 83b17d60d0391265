import Derived.Test.YtpblcahcpobicaaXmc12
import Derived.Test.YtpblcahcpobicaaXmc03
import Derived.Deep.Slices
import Derived.Test.YtpblcahcpobicaaXmc05
import Derived.Deep.Cut

/- The document's journal: a row of parts copied. -/
namespace Go.Proofs.Ytpblcahcpobicaa
open Go.RowKit Go.Lib Go.Maps
set_option linter.unusedSimpArgs false
set_option linter.unusedVariables false

theorem flat_ofK {k : Nat} {qs : List (List Value)} (hk : ∀ (i : Nat) (h : i < qs.length), (qs[i]).length = k) {j : Nat} {u : Value} (h : qs.flatten[j]? = some u) : ∃ i r, ∃ hi : i < qs.length, j = i * k + r ∧ (qs[i])[r]? = some u := by
  have hl := (List.getElem?_eq_some_iff.1 h).1
  rw [flat_len qs hk] at hl
  have hk0 : 0 < k := Nat.pos_of_ne_zero fun e => by rw [e] at hl; simp at hl
  have hi : j / k < qs.length := (Nat.div_lt_iff_lt_mul hk0).2 hl
  have hr : j % k < (qs[j / k]).length := by rw [hk]; exact Nat.mod_lt _ hk0
  have e : j = j / k * k + j % k := by rw [Nat.mul_comm]; exact (Nat.div_add_mod j k).symm
  have := flat_at qs (j / k) (j % k) hi _ hk (List.getElem?_eq_getElem hr)
  rw [← e, h] at this
  exact ⟨j / k, j % k, hi, e, by rw [List.getElem?_eq_getElem hr]; exact this.symm⟩
theorem pt_one {ok : Nat → Prop} {w : World} {x : SgT} {cs : List Value} (h : rPt ok w x cs) : ∀ u ∈ cs, u.oneCell' = true := by
  obtain ⟨rv, rfl, h2⟩ := h
  obtain ⟨a, c, rfl, _⟩ := h2.form
  intro u hu
  simp only [List.mem_cons, List.not_mem_nil, or_false] at hu
  rcases hu with rfl | rfl | rfl | rfl | rfl | rfl <;> rfl
/-- The cells of a row of parts. -/
theorem pt_qs {ok : Nat → Prop} {w : World} {L : List SgT} {a : Option Addr} {n c : Nat} (h : RdK ok w 6 (rPt ok w) L (.slice a n c)) : ∃ qs : List (List Value), qs.length = L.length ∧ (∀ (i : Nat) (h : i < qs.length), (qs[i]).length = 6) ∧
    ∀ (i : Nat) (hi : i < L.length) (h' : i < qs.length), ∃ g off, a = some ⟨g, off, none⟩ ∧ ok g ∧ g < w.heap.size ∧ rPt ok w L[i] qs[i] ∧ ∀ j u, (qs[i])[j]? = some u → w.cell? ⟨g, off + i * 6 + j, none⟩ = some u := by
  obtain ⟨a', c', e, _, _, hcell⟩ := h
  simp only [Value.slice.injEq] at e
  obtain ⟨rfl, _, _⟩ := e
  have hall : ∀ i, i < L.length → ∃ cs : List Value, cs.length = 6 ∧ ∀ hi : i < L.length, ∃ g off, a = some ⟨g, off, none⟩ ∧ ok g ∧ g < w.heap.size ∧ rPt ok w L[i] cs ∧ ∀ j u, cs[j]? = some u → w.cell? ⟨g, off + i * 6 + j, none⟩ = some u := fun i hi => by
    obtain ⟨g, off, cs, h1, h2, h3, h4, h5, h6⟩ := hcell i hi
    exact ⟨cs, h4, fun _ => ⟨g, off, h1, h2, h3, h5, h6⟩⟩
  obtain ⟨f, hf⟩ := Go.Deep.choose_lt (α := List Value) hall
  refine ⟨(List.range L.length).map f, by simp, fun i h => ?_, fun i hi h' => ?_⟩
  · have hi : i < L.length := by simpa using h
    simp only [List.getElem_map, List.getElem_range]
    exact (hf i hi).1
  · simp only [List.getElem_map, List.getElem_range]
    exact (hf i hi).2 hi
/-- A part of a row of parts: where a copy takes it from, and the copy. -/
theorem pt_copy {ok : Nat → Prop} {w : World} {L : List SgT} {g off n c : Nat} (h : RdK ok w 6 (rPt ok w) L (.slice (some ⟨g, off, none⟩) n c)) (a m : Nat) (ham : a + m ≤ L.length) : ∃ xs : List Value,
    (∀ W c' p, (0 < m → p = some ⟨g, off + a * 6, none⟩) → (∀ k, g = k → W.heap[k]? = w.heap[k]?) → Src Try.prog 6 51 (.slice p m c') m xs W) ∧
    (∀ (ok' : Nat → Prop) (W : World) (base : Nat) (v : Value), W.ownsRow base 81 6 v m xs → (∀ b, ok b → b < w.heap.size → ok' b ∧ W.heap[b]? = w.heap[b]?) → (∀ b, v.ownBlock = some b → ok' b) → RdK ok' W 6 (rPt ok' W) ((L.drop a).take m) v) := by
  obtain ⟨qs, h1, h2, h3⟩ := pt_qs h
  obtain ⟨ps, hps⟩ : ∃ k, (qs.drop a).take m = k := ⟨_, rfl⟩
  have hpl : ps.length = m := by rw [← hps, List.length_take, List.length_drop]; omega
  have hpi : ∀ i (hi : i < ps.length), ∃ h' : a + i < qs.length, ps[i] = qs[a + i] := fun i hi => by
    subst hps
    refine ⟨by omega, ?_⟩
    rw [List.getElem_take, List.getElem_drop]
  have hp6 : ∀ (i : Nat) (hi : i < ps.length), (ps[i]).length = 6 := fun i hi => by
    obtain ⟨h', e⟩ := hpi i hi
    rw [e]
    exact h2 _ h'
  refine ⟨ps.flatten, fun W c' p hp hg => ?_, fun ok' W base v ho hok hv => ?_⟩
  · by_cases hm : m = 0
    · subst hm
      have : ps = [] := List.eq_nil_of_length_eq_zero hpl
      subst this
      cases p with
      | none => exact Src.ofNil W Try.underlying51 c'
      | some q => exact Src.ofSlice _ Try.underlying51 _ 0 c' _ rfl (fun j u hj => by simp at hj) (fun u hu => by simp at hu)
    · rw [hp (by omega)]
      refine Src.ofSlice _ Try.underlying51 _ m c' _ (by rw [flat_len ps hp6, hpl]) (fun j u hj => ?_) (fun u hu => ?_)
      · obtain ⟨i, r, hi, rfl, hr⟩ := flat_ofK hp6 hj
        obtain ⟨h', e⟩ := hpi i hi
        rw [e] at hr
        obtain ⟨g', off', e2, _, h5, _, h6⟩ := h3 (a + i) (by omega) h'
        simp only [Option.some.injEq, Addr.mk.injEq, and_true] at e2
        obtain ⟨rfl, rfl⟩ := e2
        rw [add_plain]
        have := h6 r u hr
        have e4 : off + (a + i) * 6 + r = off + a * 6 + (i * 6 + r) := by rw [Nat.add_mul]; omega
        rw [e4] at this
        rw [← this]
        unfold World.cell?
        rw [hg g rfl]
      · obtain ⟨q, hq, hu⟩ := List.mem_flatten.1 hu
        obtain ⟨i, hi, rfl⟩ := List.getElem_of_mem hq
        obtain ⟨h', e⟩ := hpi i hi
        obtain ⟨_, _, _, _, _, h5, _⟩ := h3 (a + i) (by omega) h'
        rw [e] at hu
        exact pt_one h5 u hu
  · have hll : ((L.drop a).take m).length = m := by rw [List.length_take, List.length_drop]; omega
    have hc := fun g => World.ownsRow.cells ho (g := g)
    rcases ho.2 with ⟨rfl, hn⟩ | ⟨g', cap, cur, rfl, hb, hg, hnc, hcm, hcs, htake⟩
    · have hx : (L.drop a).take m = [] := List.eq_nil_of_length_eq_zero (by rw [hll]; exact hn)
      rw [hx]
      exact rdK_none _ W 6 _
    · refine ⟨some ⟨g', 0, none⟩, cap, by rw [hll], by rw [hll]; exact hnc, hcm, fun i hi => ?_⟩
      have hi2 : i < ps.length := by omega
      obtain ⟨h', e⟩ := hpi i hi2
      obtain ⟨_, _, _, _, _, h5, _⟩ := h3 (a + i) (by omega) h'
      refine ⟨g', 0, ps[i], rfl, hv g' rfl, (Array.getElem?_eq_some_iff.1 hg).1, hp6 i hi2, ?_, fun j u hu => ?_⟩
      · rw [e, List.getElem_take, List.getElem_drop]
        exact kp_Pt h5 hok
      · have := hc g' rfl (i * 6 + j) u (flat_at ps i j hi2 u hp6 hu)
        rw [add_plain] at this
        rw [Nat.zero_add]
        rwa [Nat.zero_add] at this
end Go.Proofs.Ytpblcahcpobicaa

/- The document's journal: drop. -/
namespace Go.Proofs.Ytpblcahcpobicaa
open Go.RowKit Go.Lib Go.Maps
set_option linter.unusedSimpArgs false
set_option linter.unusedVariables false
set_option maxRecDepth 100000
attribute [local go_sem ↓] Go.wp_at_zero Go.wp_at_succ

/-- The document's journal J, its disk in G, its parts elsewhere. -/
def QJ (w : World) (J Y : Nat) (G : Nat → Prop) (d : Dk) (L : List SgT) (ov : Bool) : Prop := ∃ lv, Bn w J (qjC Y lv ov) ∧ ¬ G J ∧ QD w Y G d ∧ RdK (fun b => ¬ G b ∧ b ≠ J) w 6 (rPt (fun b => ¬ G b ∧ b ≠ J) w) L lv
theorem qj_kf {w w1 w2 : World} {J : Nat} {G G1 : Nat → Prop} (h : Kf (fun i => G i ∨ i = J) w w1) (hg : ∀ i, G1 i → nF G w i) (k : Kf G1 w1 w2) : Kf (fun i => G i ∨ i = J) w w2 := h.transN (k.mono (fun j hj => (hg j hj).imp Or.inl id))
theorem qj_mid {wr w2 : World} {J Y : Nat} {G : Nat → Prop} {d2 : Dk} {L : List SgT} {lv : Value} (hB : Bn wr J (qjC Y lv false)) (hJ : ¬ G J) (hr : RdK (fun b => ¬ G b ∧ b ≠ J) wr 6 (rPt (fun b => ¬ G b ∧ b ≠ J) wr) L lv) (k : Kf G wr w2) (p : QD w2 Y (nF G wr) d2) :
    Bn w2 J (qjC Y lv false) ∧ ¬ nF G wr J ∧ QD w2 Y (nF G wr) d2 ∧ RdK (fun b => ¬ nF G wr b ∧ b ≠ J) w2 6 (rPt (fun b => ¬ nF G wr b ∧ b ≠ J) w2) L lv := by
  have hJl := hB.lt
  refine ⟨hB.blk (k.block J hJl hJ), fun h => h.elim hJ (fun h => by omega), p, RdK.stay kp_Pt hr (fun b hb hl => ⟨⟨fun h => h.elim hb.1 (fun h => by omega), hb.2⟩, k.block b hl hb.1⟩)⟩
theorem qj_err {w2 : World} {J Y : Nat} {G : Nat → Prop} {d2 : Dk} {L : List SgT} {lv : Value} (hB : Bn w2 J (qjC Y lv false)) (hJ : ¬ G J) (p : QD w2 Y G d2) (hr : RdK (fun b => ¬ G b ∧ b ≠ J) w2 6 (rPt (fun b => ¬ G b ∧ b ≠ J) w2) L lv) :
    QJ (w2.setCell ⟨J, 2, none⟩ (.bool true)) J Y G d2 L true :=
  ⟨lv, hB.set (i := 2) (by simp [qjC]) _, hJ, qd_setJ p hJ _, RdK.stay kp_Pt hr (fun b hb hl => ⟨hb, Below.heap_setCell _ _ _ _ (fun e => hb.2 e)⟩)⟩
theorem qj_copy {w2 wb : World} {J Y m : Nat} {G : Nat → Prop} {d2 : Dk} {M : List SgT} {lv vb : Value} {xs : List Value} (hB : Bn w2 J (qjC Y lv false)) (hJ : ¬ G J) (p : QD w2 Y G d2)
    (hx : ∀ (ok' : Nat → Prop) (W : World) (base : Nat) (v : Value), W.ownsRow base 81 6 v m xs → (∀ b, ¬ G b ∧ b ≠ J → b < w2.heap.size → ok' b ∧ W.heap[b]? = w2.heap[b]?) → (∀ b, v.ownBlock = some b → ok' b) → RdK ok' W 6 (rPt ok' W) M v)
    (hb : Below w2.heap.size w2 wb) (ho : wb.ownsRow w2.heap.size 81 6 vb m xs) :
    Bn wb J (qjC Y lv false) ∧ QJ (wb.setCell ⟨J, 1, none⟩ vb) J Y (cF G w2) d2 M false ∧ Kf (fun i => i = J) w2 (wb.setCell ⟨J, 1, none⟩ vb) := by
  have hJl := hB.lt
  have hB2 := hB.on hb
  have ho2 : (wb.setCell ⟨J, 1, none⟩ vb).ownsRow w2.heap.size 81 6 vb m xs := ownsRow_setCell_below ho hJl _
  have hbl : ∀ b, b ≠ J → b < w2.heap.size → (wb.setCell ⟨J, 1, none⟩ vb).heap[b]? = w2.heap[b]? := fun b hb2 hl => (Below.heap_setCell _ _ _ _ (fun e => hb2 e)).trans (hb.block b hl)
  have hlt := ownsRow_lt ho2
  refine ⟨hB2, ⟨vb, hB2.set (i := 1) (by simp [qjC]) vb, fun h => hJ h.1, ?_, hx _ _ _ _ ho2 (fun b hb2 hl => ⟨⟨fun h => hb2.1 h.1, hb2.2⟩, hbl b hb2.2 hl⟩) (fun b hb2 => ?_)⟩, Kf.set (F := fun i => i = J) (X := J) (Kf.of hb (Nat.le_refl _)) rfl _⟩
  · exact p.keep (fun b hG hl => hbl b (fun e => hJ (by rw [← e]; exact hG)) hl) (fun b hl hG => ⟨hG, hl⟩)
  · have := hlt b hb2
    exact ⟨fun h => by have := h.2; omega, by omega⟩
/-- What drop leaves. -/
def QdOut (w w' : World) (J Y : Nat) (G : Nat → Prop) (R : Dk × Int) (L : List SgT) (n : Nat) (e : Ending) : Prop := e = .returned (.int .i64 (if R.2 = 0 then 0 else 8)) ∧
  ∃ G' L', QJ w' J Y G' R.1 L' (decide (¬ R.2 = 0)) ∧ (R.2 = 0 → L' = L.drop n) ∧ (∀ i, G' i → nF G w i) ∧ Kf (fun i => G i ∨ i = J) w w'
set_option maxHeartbeats 8000000 in
theorem qjdrop_any {w : World} {J Y n0 n : Nat} {G : Nat → Prop} {d : Dk} {L : List SgT} (h : QJ w J Y G d L false) (ok : Ok d n0 1000000) (hn0 : n0 ≤ 100000) (hl : L.length ≤ 100000) (hn : n ≤ L.length) :
    Calls Try.prog 37 #[.pointer (some ⟨J, 0, none⟩), .int .i64 (n : Int)] w fun e w' => QdOut w w' J Y G (dpsM d (L.take n)) L n e := by
  have hJl : J < w.heap.size := by obtain ⟨lv, h1, _⟩ := h; exact h1.lt
  have hJG : ¬ G J := by obtain ⟨lv, _, h1, _⟩ := h; exact h1
  obtain ⟨R, hR⟩ : ∃ R, dpsM d (L.take n) = R := ⟨_, rfl⟩
  have HI := hideD (show ∃ dj Gj, QJ w J Y Gj dj (L.drop 0) false ∧ Ok dj n0 1000000 ∧ (∀ i, Gj i → nF G w i) ∧ Kf (fun i => G i ∨ i = J) w w ∧ dpsM dj ((L.take n).drop 0) = R from ⟨d, G, h, ok, fun i hi => .inl hi, Kf.refl _ _, hR⟩)
  rw [hR]
  clear h ok hR
  go_enter Try.func37, Try.ntmps37
  go_wp2
  go_loopw [6] (fun ix wr => ∃ (k : Nat), k ≤ n ∧ ix = .int .i64 (k : Int) ∧ Hid (∃ dj Gj, QJ wr J Y Gj dj (L.drop k) false ∧ Ok dj n0 1000000 ∧ (∀ i, Gj i → nF G w i) ∧ Kf (fun i => G i ∨ i = J) w wr ∧ dpsM dj ((L.take n).drop k) = R)) (fun ix _ => n - (RowKit.intOf ix).toNat)
  case atStart => exact ⟨0, Nat.zero_le _, rfl, HI⟩
  case round =>
    clear HI
    obtain ⟨k, hk, rfl, HI⟩ := hrel
    obtain ⟨dj, Gj, q1, okj, hgj, hkf, hRj⟩ := HI.out
    clear HI
    by_cases hlt : k < n
    · obtain ⟨lv, hB, hJ, hq, hr⟩ := q1
      have hkL : k < L.length := by omega
      have h0 : 0 < (L.drop k).length := by rw [List.length_drop]; omega
      obtain ⟨a, c, rfl, hlc, hcm⟩ := id hr.form
      unfold maxLen at hcm
      obtain ⟨g, off, ra, rc, rfl, hgl, c0, -⟩ := RdPt.at (RdK.stay kp_Pt hr (fun b _ _ => ⟨trivial, rfl⟩)) h0
      rw [Nat.zero_mul, Nat.add_zero] at c0
      have hgG : ¬ Gj g := by
        obtain ⟨_, _, e0, _, _, hcell⟩ := id hr
        obtain ⟨g', off', _, e, ⟨hgG, _⟩, _⟩ := hcell 0 h0
        simp only [Value.slice.injEq] at e0
        obtain ⟨rfl, _, _⟩ := e0
        simp only [Option.some.injEq, Addr.mk.injEq, and_true] at e
        obtain ⟨rfl, rfl⟩ := e
        exact hgG
      have hjt : k < (L.take n).length := by rw [List.length_take]; omega
      rw [dps_at hjt, List.getElem_take] at hRj
      rw [List.getElem_drop] at c0
      simp only [Nat.add_zero] at c0
      have hd : Calls Try.prog 36 #[.pointer (some ⟨Y, 0, none⟩), .int .i64 (L[k]).1] wr.drew fun e w' => e = .returned (.int .i64 (opM dj (L[k]).1 (drpF dj (L[k]).1)).2) ∧ QD w' Y (nF Gj wr) (opM dj (L[k]).1 (drpF dj (L[k]).1)).1 ∧ Kf Gj wr w' :=
        (qdrop_any (w := wr.drew) (n := (L[k]).1) (hq.keep (fun _ _ _ => rfl) (fun _ _ h => h)) okj.fuse.2 (by have := okj.len; omega)).mono (fun e w' h => ⟨h.1, h.2.1, (Kf.refl Gj wr).drew.trans h.2.2⟩)
      have okd := okj.drp (L[k]).1
      obtain ⟨yn, hyn⟩ : ∃ y, (L[k]).1 = y := ⟨_, rfl⟩
      rw [hyn] at c0 hRj hd okd
      have hw := hkf.size
      obtain ⟨n1, hn1⟩ : ∃ q, (L.drop k).length = q := ⟨_, rfl⟩
      have hlr := hr
      rw [hn1] at hB hr hlc h0
      have b0 := (hB 0 _ rfl).1
      have b1 := (hB 1 _ rfl).1
      have k1 : (k : Int) < (n : Int) := by omega
      have k2 : (0 : Int) ≤ (k : Int) := by omega
      have n2 : (0 : Int) < (n1 : Int) := by omega
      by_cases he : (opM dj yn (drpF dj yn)).2 = 0
      · rw [if_pos he] at hRj
        rw [he] at hd
        obtain ⟨dd, hdd⟩ : ∃ o, opM dj yn (drpF dj yn) = o := ⟨_, rfl⟩
        rw [hdd] at hRj hd okd he
        have HM := hideD (show ∀ w2, QD w2 Y (nF Gj wr) dd.1 → Kf Gj wr w2 → (w2.cell? ⟨J, 0, none⟩ = some (.pointer (some ⟨Y, 0, none⟩)) ∧ w2.cell? ⟨J, 1, none⟩ = some (.slice (some ⟨g, off, none⟩) n1 c) ∧ w2.cell? ⟨g, off, none⟩ = some (.int .i64 yn)) ∧ Hid (Bn w2 J (qjC Y (.slice (some ⟨g, off, none⟩) n1 c) false) ∧ ¬ nF Gj wr J ∧ QD w2 Y (nF Gj wr) dd.1 ∧ RdK (fun b => ¬ nF Gj wr b ∧ b ≠ J) w2 6 (rPt (fun b => ¬ nF Gj wr b ∧ b ≠ J) w2) (L.drop k) (.slice (some ⟨g, off, none⟩) n1 c)) from fun w2 p k => by
          have hm := qj_mid hB hJ hr k p
          exact ⟨⟨(hm.1 0 _ rfl).1, (hm.1 1 _ rfl).1, keep_cell (p := ⟨g, off, none⟩) (k.block g hgl hgG) c0⟩, hideD hm⟩)
        have HK := hideD (And.intro hgj (And.intro hkf (And.intro hn1 (And.intro okd hRj))))
        have hgn := hr.form
        clear hB hJ hq hr hlr okj hgj hkf okd hdd hyn he hjt hn1 hRj
        go_wp2
        go_region_held (fun w' => w'.cell? ⟨J, 0, none⟩ = some (.pointer (some ⟨Y, 0, none⟩)) ∧ w'.cell? ⟨J, 1, none⟩ = some (.slice (some ⟨g, off, none⟩) n1 c) ∧ w'.cell? ⟨g, off, none⟩ = some (.int .i64 yn)) (first | exact ⟨b0, b1, c0⟩ | exact hS) (first
          | (go_at_call 36; refine hd.mono ?_; rintro e w2 ⟨rfl, p2, k2⟩; clear hd; obtain ⟨hS, HR⟩ := HM.out _ p2 k2; have HK2 := hideD k2; clear p2 k2)
          | fail)
        go_upto_region 6 with fail
        obtain ⟨-, s1, -⟩ := hS
        obtain ⟨hqB, hqJ, hqD, hqR⟩ := HR.out
        have hsz2 := HK2.out.size
        have hJ2 : J < w2.heap.size := hqB.lt
        have f1 := (hqB 1 _ rfl).2
        obtain ⟨io, hio, hio0, hio1, hio2⟩ := inf_getJ inf_part
        have hal : Below w2.heap.size w2 (w2.alloc (.cells #[] 81)) := (Below.refl _ _).alloc (Nat.le_refl _) _
        have hown : (w2.alloc (.cells #[] 81)).ownsRow w2.heap.size 81 6 (.slice (some ⟨w2.heap.size, 0, none⟩) 0 0) 0 [] := World.ownsRow_made w2 #[] 0 (Nat.le_refl _) (Nat.zero_le _) rfl
        have C1 : (w2.alloc (.cells #[] 81)).cell? ⟨J, 1, none⟩ = some (.slice (some ⟨g, off, none⟩) n1 c) := (hal.cell (p := ⟨J, 1, none⟩) hJ2).trans s1
        have hnl : (L.drop k).length = n1 := HK.out.2.2.1
        obtain ⟨xs, hx1, hx2⟩ := pt_copy hqR 1 (n1 - 1) (by omega)
        have hgo : (wA : World) → (w2.alloc (.cells #[] 81)).grownBy wA (Value.slice (some ⟨w2.heap.size, 0, none⟩) 0 0).ownBlock → Below w2.heap.size w2 wA := fun wA hg => hal.grown hg (by show w2.heap.size ≤ (w2.alloc _).heap.size; simp) (fun k hk => by have : w2.heap.size = k := Option.some.inj hk; omega)
        have j1 : (1 : Int) ≤ (c : Int) := by omega
        have j2 : ¬ (1 : Int) > (c : Int) := by omega
        have j3 : (1 : Int) ≤ (n1 : Int) := by omega
        have j4 : (n1 : Int) ≤ (c : Int) := by omega
        have j5 : ¬ (1 : Int) > (n1 : Int) := by omega
        have hn1b : n1 ≤ 100000 := by rw [← hnl, List.length_drop]; omega
        have hsrc : Src Try.prog 6 51 (.slice (if c = 1 then some ⟨g, off, none⟩ else some ⟨g, off + 6, none⟩) (n1 - 1) (c - 1)) (n1 - 1) xs (w2.alloc (.cells #[] 81)) := hx1 _ _ _ (fun h => by rw [if_neg (by omega)]) (fun q hq => by subst hq; exact hal.block g (Nat.lt_of_lt_of_le hgl hsz2))
        have hdk : ((L.drop k).drop 1).take (n1 - 1) = L.drop (k + 1) := by
          rw [List.drop_drop]
          exact List.take_of_length_le (by rw [← hnl]; simp only [List.length_drop]; omega)
        have HFIN := hideD (show ∀ (vb : Value) (wb : World), wb.ownsRow w2.heap.size 81 6 vb (0 + (n1 - 1)) ([] ++ xs) → (w2.alloc (.cells #[] 81)).grownBy wb (Value.slice (some ⟨w2.heap.size, 0, none⟩) 0 0).ownBlock → (wb.cell? ⟨J, 1, none⟩ = some (.slice (some ⟨g, off, none⟩) n1 c) ∧ wb.frozen? ⟨J, 1, none⟩ = false) ∧ Hid (QJ (wb.setCell ⟨J, 1, none⟩ vb) J Y (cF (nF Gj wr) w2) dd.1 (L.drop (k + 1)) false ∧ Kf (fun i => i = J) w2 (wb.setCell ⟨J, 1, none⟩ vb)) from fun vb wb ho hg => by
          rw [Nat.zero_add, List.nil_append] at ho
          obtain ⟨z1, z2, z3⟩ := qj_copy hqB hqJ hqD hx2 (hgo wb hg) ho
          rw [hdk] at z2
          exact ⟨z1 1 _ rfl, hideD ⟨z2, z3⟩⟩)
        clear hqB hqJ hqD hqR hx1 hx2 hgo hdk hnl f1 s1 hgl hgG HR
        go_wp2_with (first
          | (at_builtin; refine wpList_append_at _ rfl _ _ 51 51 rfl w2.heap.size 81 io (.agg #[.int .i64 0, .int .i64 0, .slice none 0 0, .bool false, .bool false, .bool false]) 6 48 Try.underlying51 hio hio0 hio1 hio2 rfl (.slice (some ⟨w2.heap.size, 0, none⟩) 0 0) 0 [] rfl hown _ (n1 - 1) xs rfl hsrc (n1 - 1) (.inr (by omega)) (Nat.le_refl _) (by unfold maxLen; omega) (by simp) ?_; intro vb wb hOb hgb hat; obtain ⟨a3, c3, rfl, hl3, hm3⟩ := ownf_formJ hOb; obtain ⟨⟨z1, z2⟩, HZ⟩ := HFIN.out _ _ hOb hgb; clear hOb hgb hat hsrc hown hal C1)
          | fail)
        go_roundw
        case rel =>
          obtain ⟨t1, t2, t3, t4, t5⟩ := HK.out
          obtain ⟨z3, z4⟩ := HZ.out
          rw [Nat.zero_add] at z3 z4
          refine ⟨k + 1, hlt, by go_num, hideD ⟨dd.1, cF (nF Gj wr) w2, z3, t4, fun i hi => hi.1.elim (t1 i) (fun h => .inr (by omega)), (qj_kf t2 t1 HK2.out).trans (z4.mono (fun j hj => .inr hj)), t5⟩⟩
        case measure => simp [RowKit.intOf]; omega
      · rw [if_neg he] at hRj
        rw [hRj] at hd he okd
        have heb : (R.2 == 0) = false := by simpa using he
        have hec : (R.2 != 0) = true := by simpa using he
        have HE := hideD he
        have HM := hideD (show ∀ w2, QD w2 Y (nF Gj wr) R.1 → Kf Gj wr w2 → (w2.cell? ⟨J, 0, none⟩ = some (.pointer (some ⟨Y, 0, none⟩)) ∧ w2.cell? ⟨J, 1, none⟩ = some (.slice (some ⟨g, off, none⟩) n1 c) ∧ w2.cell? ⟨g, off, none⟩ = some (.int .i64 yn)) ∧ (w2.cell? ⟨J, 2, none⟩ = some (.bool false) ∧ w2.frozen? ⟨J, 2, none⟩ = false) ∧ Hid (QJ (w2.setCell ⟨J, 2, none⟩ (.bool true)) J Y (nF Gj wr) R.1 (L.drop k) true) from fun w2 p k => by
          have hm := qj_mid hB hJ hr k p
          exact ⟨⟨(hm.1 0 _ rfl).1, (hm.1 1 _ rfl).1, keep_cell (p := ⟨g, off, none⟩) (k.block g hgl hgG) c0⟩, hm.1 2 _ rfl, hideD (qj_err hm.1 hm.2.1 hm.2.2.1 hm.2.2.2)⟩)
        have HK := hideD (And.intro hgj (And.intro hkf hn1))
        clear hB hJ hq hr hlr okj hgj hkf okd hyn he hjt hn1 hRj
        obtain ⟨e2, he2⟩ : ∃ q, R.2 = q := ⟨_, rfl⟩
        rw [he2] at hd heb hec
        have HE2 := hideD he2
        clear he2
        go_wp2
        go_region_held (fun w' => w'.cell? ⟨J, 0, none⟩ = some (.pointer (some ⟨Y, 0, none⟩)) ∧ w'.cell? ⟨J, 1, none⟩ = some (.slice (some ⟨g, off, none⟩) n1 c) ∧ w'.cell? ⟨g, off, none⟩ = some (.int .i64 yn)) (first | exact ⟨b0, b1, c0⟩ | exact hS) (first
          | (go_at_call 36; refine hd.mono ?_; rintro e w2 ⟨rfl, p2, k2⟩; clear hd; obtain ⟨hS, ⟨z2, f2⟩, HR⟩ := HM.out _ p2 k2; have HK2 := hideD k2; clear p2 k2)
          | fail)
        go_wp2
        (try simp only [Exit.inBlock, Exit.then])
        go_ret
        unfold QdOut
        exact ⟨congrArg (fun q => Ending.returned (.int .i64 q)) (show (8 : Int) = if R.2 = 0 then 0 else 8 from (if_neg HE.out).symm), nF Gj wr, L.drop k, by rw [decide_eq_true (show ¬ R.2 = 0 from HE.out)]; exact HR.out, fun h => absurd h HE.out, fun i hi => hi.elim (HK.out.1 i) (fun h => .inr (by omega)), (qj_kf HK.out.2.1 HK.out.1 HK2.out).set (X := J) (Or.inr rfl) _⟩
    · have k1 : ¬ (k : Int) < (n : Int) := by omega
      obtain rfl : k = n := by omega
      rw [List.drop_take, Nat.sub_self, List.take_zero] at hRj
      have hRd : (dj, (0 : Int)) = R := hRj
      subst hRd
      have HF := hideD (And.intro q1 (And.intro hgj hkf))
      clear q1 hgj hkf hRj okj
      go_wp2
      go_ret
      unfold QdOut
      exact ⟨rfl, Gj, L.drop k, HF.out.1, fun _ => rfl, HF.out.2.1, HF.out.2.2⟩

/-- What the document's Open leaves, if R is the disk, the error and the parts that stay. -/
def QoOut (w w' : World) (Y : Nat) (G : Nat → Prop) (R : Dk × Int × List SgT) (e : Ending) : Prop := ∃ p rv, e = .returned (.tuple #[p, rv, .int .i64 R.2.1]) ∧ QD w' Y (nF G w) R.1 ∧ Kf G w w' ∧ (R.2.1 ≠ 0 → p = .pointer none ∧ rv = .slice none 0 0) ∧
  (R.2.1 = 0 → ∃ J G', p = .pointer (some ⟨J, 0, none⟩) ∧ w.heap.size ≤ J ∧ QJ w' J Y G' R.1 R.2.2 false ∧ (∀ i, G' i → nF G w i) ∧ RdBs w' (opR R.2.2) rv)
set_option maxHeartbeats 4000000 in
theorem qjopen_dead {w : World} {Y : Nat} {G : Nat → Prop} {d : Dk} (h : QD w Y G d) (hl : d.L.length ≤ 100000) (hd : d.dead = true) (hL : d.L ≠ []) :
    Calls Try.prog 12 #[.pointer (some ⟨Y, 0, none⟩)] w fun e w' => QoOut w w' Y G (qopM d) e := by
  have hO : qopM d = (d, 8, []) := if_pos ⟨hd, hL⟩
  rw [hO]
  have HW := hideD (show QD w Y (nF G w) d from h.keep (fun _ _ _ => rfl) (fun j _ hj => .inl hj))
  obtain ⟨Lv, E, hq⟩ := h
  obtain ⟨g1, g2, g3, g4⟩ := id hq
  obtain ⟨c0, _⟩ := g4 0 _ rfl
  obtain ⟨c3, _⟩ := g4 3 _ rfl
  rw [hd] at c3
  have hEl : E.length = d.L.length := by rw [← g2]; simp [mmE]
  obtain ⟨a, c, rfl, hlc, hcm⟩ := id g3.form
  unfold maxLen at hcm
  obtain ⟨N, hN⟩ : ∃ k, E.length = k := ⟨_, rfl⟩
  have hN0 : 0 < N := by
    rw [← hN, hEl]
    exact List.length_pos_iff.2 hL
  rw [hN] at c0 hlc
  have k1 : (0 : Int) < (N : Int) := by omega
  clear hq g1 g2 g3 g4 hEl hO hL hd
  go_enter Try.func12, Try.ntmps12
  go_wp2
  (try simp only [Exit.inBlock, Exit.then])
  refine bodyPost_ret (results_tmp3 rfl _ _ _) rfl ?_
  unfold QoOut
  exact ⟨_, _, rfl, HW.out, Kf.refl _ _, fun _ => ⟨rfl, rfl⟩, fun h => absurd (show (8 : Int) = 0 from h) (by decide)⟩
set_option maxHeartbeats 4000000 in
theorem qjopen_bad {w : World} {Y n0 : Nat} {G : Nat → Prop} {d : Dk} (h : QD w Y G d) (ok : Ok d n0 1000000) (hn0 : n0 ≤ 100000) (hby : ByD d) (hd : ¬ (d.dead = true ∧ d.L ≠ [])) (hk : okQ (sgsM d.L) = false) :
    Calls Try.prog 12 #[.pointer (some ⟨Y, 0, none⟩)] w fun e w' => QoOut w w' Y G (qopM d) e := by
  have hO : qopM d = (d, 9, []) := by unfold qopM; rw [if_neg hd, if_pos hk]
  rw [hO]
  have HW := hideD (show QD w Y (nF G w) d from h.keep (fun _ _ _ => rfl) (fun j _ hj => .inl hj))
  obtain ⟨Lv, E, hq⟩ := h
  have hps := qparts_any hq ok hn0 hby
  unfold PsOut at hps
  rw [hk] at hps
  obtain ⟨g1, g2, g3, g4⟩ := id hq
  obtain ⟨c0, _⟩ := g4 0 _ rfl
  obtain ⟨c3, _⟩ := g4 3 _ rfl
  have hEl : E.length = d.L.length := by rw [← g2]; simp [mmE]
  obtain ⟨a, c, rfl, hlc, hcm⟩ := id g3.form
  unfold maxLen at hcm
  obtain ⟨N, hN⟩ : ∃ k, E.length = k := ⟨_, rfl⟩
  rw [hN] at c0 hlc
  obtain ⟨dd, hdd⟩ : ∃ b, d.dead = b := ⟨_, rfl⟩
  rw [hdd] at c3
  have hN0 : dd = true → ¬ (0 : Int) < (N : Int) := fun e h => hd ⟨by rw [hdd]; exact e, fun hL => by
    have h0 : E.length = 0 := by rw [hEl, hL]; rfl
    omega⟩
  clear hq g1 g2 g3 g4 hEl hO hd hdd ok hby hk hN
  cases dd with
  | false =>
    clear hN0
    go_enter Try.func12, Try.ntmps12
    go_wp2_with (first
      | (go_at_call 35; refine hps.mono ?_; rintro e w2 ⟨v2, rfl, -, b2⟩; have HB2 := hideD b2; clear hps b2)
      | fail)
    (try simp only [Exit.inBlock, Exit.then])
    refine bodyPost_ret (results_tmp3 rfl _ _ _) rfl ?_
    unfold QoOut
    exact ⟨_, _, rfl, HW.out.keep (fun b _ hl => HB2.out.block b hl) (fun _ _ h => h), Kf.of HB2.out (Nat.le_refl _), fun _ => ⟨rfl, rfl⟩, fun h => absurd (show (9 : Int) = 0 from h) (by decide)⟩
  | true =>
    have k1 := hN0 rfl
    clear hN0
    go_enter Try.func12, Try.ntmps12
    go_wp2_with (first
      | (go_at_call 35; refine hps.mono ?_; rintro e w2 ⟨v2, rfl, -, b2⟩; have HB2 := hideD b2; clear hps b2)
      | fail)
    (try simp only [Exit.inBlock, Exit.then])
    refine bodyPost_ret (results_tmp3 rfl _ _ _) rfl ?_
    unfold QoOut
    exact ⟨_, _, rfl, HW.out.keep (fun b _ hl => HB2.out.block b hl) (fun _ _ h => h), Kf.of HB2.out (Nat.le_refl _), fun _ => ⟨rfl, rfl⟩, fun h => absurd (show (9 : Int) = 0 from h) (by decide)⟩
end Go.Proofs.Ytpblcahcpobicaa

/- The document's journal: Open, what goes ahead and what ends it. -/
namespace Go.Proofs.Ytpblcahcpobicaa
open Go.RowKit Go.Lib Go.Maps
set_option linter.unusedSimpArgs false
set_option linter.unusedVariables false
set_option maxRecDepth 100000

theorem QJ.on {w w' : World} {J Y : Nat} {G : Nat → Prop} {d : Dk} {L : List SgT} {ov : Bool} (h : QJ w J Y G d L ov) (hb : Below w.heap.size w w') : QJ w' J Y G d L ov := by
  obtain ⟨lv, h1, h2, h3, h4⟩ := h
  exact ⟨lv, h1.on hb, h2, h3.on hb, RdK.stay kp_Pt h4 (fun b hb' hl => ⟨hb', hb.block b hl⟩)⟩
/-- The journal made of the parts that were read. -/
theorem qj_made {w w2 : World} {Y : Nat} {G : Nat → Prop} {d : Dk} {L : List SgT} {v : Value} (h : QD w Y G d) (ho : OwnK w2 w.heap.size 81 6 rPt v L) (b2 : Below w.heap.size w w2) :
    QJ (w2.alloc (.cells #[.pointer (some ⟨Y, 0, none⟩), v, .bool false] 53)) w2.heap.size Y (cF G w) d L false ∧ Kf G w (w2.alloc (.cells #[.pointer (some ⟨Y, 0, none⟩), v, .bool false] 53)) := by
  have hal : Below w2.heap.size w2 (w2.alloc (.cells #[.pointer (some ⟨Y, 0, none⟩), v, .bool false] 53)) := (Below.refl _ _).alloc (Nat.le_refl _) _
  refine ⟨⟨v, Bn.new w2 [.pointer (some ⟨Y, 0, none⟩), v, .bool false] 53 _ rfl, fun e => by have := e.2; have := b2.size; omega, ((h.clip).on b2).on hal, ?_⟩, (Kf.of b2 (Nat.le_refl _)).alloc _⟩
  exact RdK.stay kp_Pt (ho.rd kp_Pt) (fun b hb hl => ⟨⟨fun e => by have := e.2; omega, by omega⟩, hal.block b hl⟩)
theorem bsQ_le : ∀ (L : List SgT) (b i : Nat), b ≤ i → bsQ b i L ≤ b ∨ bsQ b i L < i + L.length
  | [], b, i, h => .inl (Nat.le_refl _)
  | x :: r, b, i, h => by
    unfold bsQ
    split
    · rcases bsQ_le r i (i + 1) (by omega) with e | e
      · exact .inr (by simp only [List.length_cons]; omega)
      · exact .inr (by simp only [List.length_cons]; omega)
    · rcases bsQ_le r b (i + 1) (by omega) with e | e
      · exact .inl e
      · exact .inr (by simp only [List.length_cons]; omega)
theorem bsQ_len (L : List SgT) : bsQ 0 0 L ≤ L.length := by
  have := bsQ_le L 0 0 (Nat.le_refl _)
  omega
/-- What the document's Open answers when the parts stand in the journal. -/
def qtlM (d : Dk) (M : List SgT) : Dk × Int × List SgT :=
  if (dpsM d (M.take (bsQ 0 0 M))).2 ≠ 0 then ((dpsM d (M.take (bsQ 0 0 M))).1, 8, []) else ((dpsM d (M.take (bsQ 0 0 M))).1, 0, M.drop (bsQ 0 0 M))
theorem qop_tail {d : Dk} (h1 : ¬ (d.dead = true ∧ d.L ≠ [])) (h2 : okQ (sgsM d.L) = true) (h3 : (lstM d (sgsM d.L)).2.1 = 0) : qopM d = qtlM (lstM d (sgsM d.L)).1 (lstM d (sgsM d.L)).2.2 := by
  unfold qopM qtlM
  rw [if_neg h1, if_neg (by rw [h2]; decide), if_neg (fun h => h h3)]
theorem qop_lst {d : Dk} (h1 : ¬ (d.dead = true ∧ d.L ≠ [])) (h2 : okQ (sgsM d.L) = true) (h3 : (lstM d (sgsM d.L)).2.1 ≠ 0) : qopM d = ((lstM d (sgsM d.L)).1, 8, []) := by
  unfold qopM
  rw [if_neg h1, if_neg (by rw [h2]; decide), if_pos h3]
/-- All that the tail needs of the world in which the journal stands. -/
structure Tj (w wJ : World) (J Y : Nat) (G : Nat → Prop) (n0 : Nat) (d : Dk) (M : List SgT) : Prop where
  q : ∃ GJ, QJ wJ J Y GJ d M false ∧ ∀ i, GJ i → nF G w i
  k : Kf G w wJ
  o : Ok d n0 1000000
  J : w.heap.size ≤ J
  l : M.length ≤ 100000
  r : (opR M).length ≤ 1000000
theorem Tj.on {w wJ wk : World} {J Y n0 : Nat} {G : Nat → Prop} {d : Dk} {M : List SgT} (h : Tj w wJ J Y G n0 d M) (b : Below wJ.heap.size wJ wk) : Tj w wk J Y G n0 d M := by
  obtain ⟨GJ, q, g⟩ := h.q
  exact ⟨⟨GJ, q.on b, g⟩, h.k.trans (Kf.of b (Nat.le_refl _)), h.o, h.J, h.l, h.r⟩
/-- The journal's cell of parts, and a part's of begun. -/
theorem Tj.c1 {w wJ : World} {J Y n0 : Nat} {G : Nat → Prop} {d : Dk} {M : List SgT} (h : Tj w wJ J Y G n0 d M) : ∃ a c, J < wJ.heap.size ∧ wJ.cell? ⟨J, 1, none⟩ = some (.slice a M.length c) ∧ RdPt wJ M (.slice a M.length c) ∧ M.length ≤ c ∧ c ≤ maxLen := by
  obtain ⟨GJ, ⟨lv, h1, h2, h3, h4⟩, -⟩ := h.q
  obtain ⟨a, c, rfl, hl, hc⟩ := id h4.form
  exact ⟨a, c, h1.lt, (h1 1 _ rfl).1, RdK.stay kp_Pt h4 (fun b _ _ => ⟨trivial, rfl⟩), hl, hc⟩
/-- drop, called in the tail. -/
theorem Tj.drop {w wJ : World} {J Y n0 : Nat} {G : Nat → Prop} {d : Dk} {M : List SgT} (h : Tj w wJ J Y G n0 d M) (hn0 : n0 ≤ 100000) : Calls Try.prog 37 #[.pointer (some ⟨J, 0, none⟩), .int .i64 (bsQ 0 0 M : Int)] wJ fun e w' =>
    (e = .returned (.int .i64 (if (dpsM d (M.take (bsQ 0 0 M))).2 = 0 then 0 else 8)) ∧ ((dpsM d (M.take (bsQ 0 0 M))).2 ≠ 0 → QoOut w w' Y G (qtlM d M) (.returned (.tuple #[.pointer none, .slice none 0 0, .int .i64 8])))) ∧
    ((dpsM d (M.take (bsQ 0 0 M))).2 = 0 → Calls Try.prog 25 #[.pointer (some ⟨J, 0, none⟩)] w' fun e w3 => ∃ v, e = .returned v ∧ QoOut w w3 Y G (qtlM d M) (.returned (.tuple #[.pointer (some ⟨J, 0, none⟩), v, .int .i64 0]))) := by
  obtain ⟨GJ, q, g⟩ := h.q
  have hs := h.k.size
  refine (qjdrop_any q h.o hn0 h.l (bsQ_len M)).mono ?_
  rintro e w' ⟨rfl, G', L', q', hL', hg', k'⟩
  have hgg : ∀ i, G' i → nF G w i := fun i hi => (hg' i hi).elim (g i) (fun h => .inr (by omega))
  have hk : Kf G w w' := h.k.transN (k'.mono (fun j hj => hj.elim (g j) (fun e => .inr (by rw [e]; exact h.J))))
  have hD : QD w' Y (nF G w) (dpsM d (M.take (bsQ 0 0 M))).1 := by
    obtain ⟨lv, _, _, h3, _⟩ := q'
    exact h3.keep (fun _ _ _ => rfl) (fun j _ hj => hgg j hj)
  refine ⟨⟨rfl, fun hne => ?_⟩, fun he => ?_⟩
  · have e : qtlM d M = ((dpsM d (M.take (bsQ 0 0 M))).1, 8, []) := if_pos hne
    rw [e]
    exact ⟨_, _, rfl, hD, hk, fun _ => ⟨rfl, rfl⟩, fun h => absurd (show (8 : Int) = 0 from h) (by decide)⟩
  · have e : qtlM d M = ((dpsM d (M.take (bsQ 0 0 M))).1, 0, M.drop (bsQ 0 0 M)) := if_neg (fun h => h he)
    rw [e]
    have hl2 := hL' he
    have hdec : (decide (¬ (dpsM d (M.take (bsQ 0 0 M))).2 = 0)) = false := by simp [he]
    rw [hdec, hl2] at q'
    obtain ⟨lv, h1, h2, h3, h4⟩ := id q'
    refine (qjrecs_any h1 (RdK.stay kp_Pt h4 (fun b _ _ => ⟨trivial, rfl⟩)) (by have := h.l; rw [List.length_drop]; omega) (Nat.le_trans (opR_sub (List.drop_sublist _ _)) h.r)).mono ?_
    rintro e w3 ⟨v, rfl, hv, b3⟩
    exact ⟨v, rfl, _, _, rfl, hD.on b3, hk.trans (Kf.of b3 (Nat.le_refl _)), fun h => absurd (show (0 : Int) = 0 from rfl) h, fun _ => ⟨J, G', rfl, h.J, q'.on b3, hgg, hv⟩⟩
end Go.Proofs.Ytpblcahcpobicaa

/- The document's journal: Open, where nothing is unfinished. -/
namespace Go.Proofs.Ytpblcahcpobicaa
open Go.RowKit Go.Lib Go.Maps
set_option linter.unusedSimpArgs false
set_option linter.unusedVariables false
set_option maxRecDepth 100000
attribute [local go_sem ↓] Go.wp_at_zero Go.wp_at_succ

theorem opn_tj {w w2 : World} {Y n0 : Nat} {G : Nat → Prop} {d : Dk} {v : Value} (h : QD w Y G d) (ok : Ok d n0 1000000) (hn0 : n0 ≤ 100000) (ho : OwnK w2 w.heap.size 81 6 rPt v (sgsM d.L)) (b2 : Below w.heap.size w w2) :
    Tj w (w2.alloc (.cells #[.pointer (some ⟨Y, 0, none⟩), v, .bool false] 53)) w2.heap.size Y G n0 d (sgsM d.L) := by
  obtain ⟨q, k⟩ := qj_made h ho b2
  refine ⟨⟨_, q, fun i hi => .inl hi.1⟩, k, ok, b2.size, ?_, ?_⟩
  · rw [sgs_len]
    have := ok.len
    omega
  · exact Nat.le_trans (opR_sgs d.L) (by have := ok.us; omega)
/-- A row of parts' last one, in the world of parts and in the next. -/
theorem opn_row {w2 : World} {B m : Nat} {L : List SgT} {v : Value} (ho : OwnK w2 B 81 6 rPt v L) (hm : L.length = m + 1) (h : m < L.length) : ∃ g off c, v = .slice (some ⟨g, off, none⟩) (m + 1) c ∧ m + 1 ≤ c ∧ c ≤ 9223372036854775807 ∧ B ≤ g ∧ g < w2.heap.size ∧ ∀ wk, Below w2.heap.size w2 wk →
    wk.cell? ⟨g, off + m * 6, none⟩ = some (.int .i64 (L[m]).1) ∧ wk.cell? ⟨g, off + m * 6 + 4, none⟩ = some (.bool (L[m]).2.2.begun) ∧ wk.cell? ⟨g, off + m * 6 + 5, none⟩ = some (.bool (L[m]).2.2.ended) := by
  have hr := own_rdPt ho
  obtain ⟨a, c, rfl, hlc, hcm⟩ := hr.form
  obtain ⟨g, off, ra, rc, rfl, hg, c0, -, -, -, c4, c5, -⟩ := hr.at h
  have hgb : B ≤ g := by
    obtain ⟨_, _, e0, _, _, hcell⟩ := ho.rd kp_Pt
    obtain ⟨g', off', _, e, hb, _⟩ := hcell m h
    simp only [Value.slice.injEq] at e0
    obtain ⟨e0, _, _⟩ := e0
    rw [← e0] at e
    simp only [Option.some.injEq, Addr.mk.injEq, and_true] at e
    rw [e.1]
    exact hb
  unfold maxLen at hcm
  rw [hm] at hlc
  refine ⟨g, off, c, by rw [hm], hlc, by omega, hgb, hg, fun wk b => ⟨?_, ?_, ?_⟩⟩
  · exact (b.cell (p := ⟨g, off + m * 6, none⟩) hg).trans c0
  · exact (b.cell (p := ⟨g, off + m * 6 + 4, none⟩) hg).trans c4
  · exact (b.cell (p := ⟨g, off + m * 6 + 5, none⟩) hg).trans c5
set_option maxHeartbeats 8000000 in
theorem qjopen_whole {w : World} {Y n0 : Nat} {G : Nat → Prop} {d : Dk} (h : QD w Y G d) (ok : Ok d n0 1000000) (hn0 : n0 ≤ 100000) (hby : ByD d) (hdf : d.dead = false) (hk : okQ (sgsM d.L) = true) {m0 : Nat} (hm0 : (sgsM d.L).length = m0 + 1) (hlt0 : m0 < (sgsM d.L).length)
    (hun : unfB ((sgsM d.L)[m0]).2.2 = false) :
    Calls Try.prog 12 #[.pointer (some ⟨Y, 0, none⟩)] w fun e w' => QoOut w w' Y G (qopM d) e := by
  have hd : ¬ (d.dead = true ∧ d.L ≠ []) := fun e => by rw [hdf] at e; exact absurd e.1 (by decide)
  have hlast : (sgsM d.L).getLast? = some ((sgsM d.L)[m0]) := by
    rw [List.getLast?_eq_getElem?, hm0, Nat.add_sub_cancel, List.getElem?_eq_getElem hlt0]
  have hlm : lstM d (sgsM d.L) = (d, 0, sgsM d.L) := by
    unfold lstM
    rw [hlast]
    simp only
    rw [hun, if_neg (by decide)]
  have hop : qopM d = qtlM d (sgsM d.L) := by
    have := qop_tail hd hk (by rw [hlm])
    rw [hlm] at this
    exact this
  have HOP := hideD hop
  have HTJ := hideD (show ∀ w2 v, OwnK w2 w.heap.size 81 6 rPt v (sgsM d.L) → Below w.heap.size w w2 → Tj w (w2.alloc (.cells #[.pointer (some ⟨Y, 0, none⟩), v, .bool false] 53)) w2.heap.size Y G n0 d (sgsM d.L) from fun w2 v ho b2 => opn_tj h ok hn0 ho b2)
  obtain ⟨Lv, E, hq⟩ := h
  have hps := qparts_any hq ok hn0 hby
  unfold PsOut at hps
  rw [hk] at hps
  simp only [forall_const] at hps
  obtain ⟨g1, g2, g3, g4⟩ := id hq
  obtain ⟨c3, _⟩ := g4 3 _ rfl
  rw [hdf] at c3
  obtain ⟨M, hM⟩ : ∃ k, sgsM d.L = k := ⟨_, rfl⟩
  rw [hM] at HTJ hps HOP
  have HROW := hideD (show ∀ w2 v, OwnK w2 w.heap.size 81 6 rPt v M → ∃ g off c, v = .slice (some ⟨g, off, none⟩) (m0 + 1) c ∧ m0 + 1 ≤ c ∧ c ≤ 9223372036854775807 ∧ w.heap.size ≤ g ∧ g < w2.heap.size ∧ ∀ wk, Below w2.heap.size w2 wk →
    wk.cell? ⟨g, off + m0 * 6, none⟩ = some (.int .i64 ((sgsM d.L)[m0]).1) ∧ wk.cell? ⟨g, off + m0 * 6 + 4, none⟩ = some (.bool ((sgsM d.L)[m0]).2.2.begun) ∧ wk.cell? ⟨g, off + m0 * 6 + 5, none⟩ = some (.bool ((sgsM d.L)[m0]).2.2.ended) from fun w2 v ho => opn_row (by rw [hM]; exact ho) hm0 hlt0)
  have hmx : m0 + 1 ≤ 100000 := by
    rw [sgs_len] at hm0
    have := ok.len
    omega
  have HML := hideD (show M.length = m0 + 1 by rw [← hM]; exact hm0)
  have HN0 := hideD hn0
  obtain ⟨bg, hbg⟩ : ∃ b, ((sgsM d.L)[m0]).2.2.begun = b := ⟨_, rfl⟩
  obtain ⟨ed, hed⟩ : ∃ b, ((sgsM d.L)[m0]).2.2.ended = b := ⟨_, rfl⟩
  obtain ⟨nn, hnn⟩ : ∃ b, ((sgsM d.L)[m0]).1 = b := ⟨_, rfl⟩
  have hbe : bg = true → ed = true := fun e => by
    unfold unfB at hun
    rw [hbg, hed, e] at hun
    simpa using hun
  rw [hbg, hed, hnn] at HROW
  have k1 : (0 : Int) < (m0 : Int) + 1 := by omega
  have k2 : (0 : Int) ≤ (m0 : Int) := by omega
  have k3 : (m0 : Int) < (m0 : Int) + 1 := by omega
  clear hq g1 g2 g3 g4 hd hlast hlm hop ok hn0 hby hdf hk hun hbg hed hnn hm0 hlt0 hM
  cases bg with
  | false =>
    clear hbe
    go_enter Try.func12, Try.ntmps12
    go_upto_region 14 with (first
      | (go_at_call 35; refine hps.mono ?_; rintro e w2 ⟨v2, rfl, ho2, b2⟩; have HB2 := hideD b2; obtain ⟨lg, lo, lc, rfl, hlc, hlm, -, -, hcs⟩ := HROW.out _ _ ho2; have HT := hideD (HTJ.out _ _ ho2 b2); obtain ⟨r0, r4, r5⟩ := hcs _ ((Below.refl w2.heap.size w2).alloc (Nat.le_refl _) (.cells #[.pointer (some ⟨Y, 0, none⟩), .slice (some ⟨lg, lo, none⟩) (m0 + 1) lc, .bool false] 53)); clear hps b2 ho2 hcs)
      | fail)
    generalize w2.alloc (.cells #[.pointer (some ⟨Y, 0, none⟩), .slice (some ⟨lg, lo, none⟩) (m0 + 1) lc, .bool false] 53) = wJ at *
    generalize w2.heap.size = J at *
    clear r0 r4 r5 HB2 HROW HTJ
    have HM := HML
    clear HML
    generalize m0 + 1 = m at *
    obtain ⟨dJ, hdJ⟩ : ∃ k, d = k := ⟨_, rfl⟩
    rw [hdJ] at HT
    have HR := hideD (show qopM d = qtlM dJ M by rw [← hdJ]; exact HOP.out)
    clear hdJ HOP
    obtain ⟨a, c, hJl, c1, hr, hlc, hcm⟩ := HT.out.c1
    have hml := HT.out.l
    unfold maxLen at hcm
    rw [HM.out] at c1 hr hlc hml
    have HRT := hideD (And.intro hr hJl)
    obtain ⟨bb, hbb⟩ : ∃ b, bsQ 0 0 M = b := ⟨_, rfl⟩
    have HBB := hideD hbb
    have H0 := hideD (show bsQ 0 0 (M.drop 0) = bb from hbb)
    have HB0 := hideD (Below.refl wJ.heap.size wJ)
    clear hr hJl hbb
    go_wp2
    go_loopw [9, 80] (fun rb ix wr => ∃ (j b : Nat), j ≤ m ∧ b ≤ j ∧ ix = .int .i64 (j : Int) ∧ rb = .int .i64 (b : Int) ∧ Hid (bsQ b j (M.drop j) = bb) ∧ Hid (Below wJ.heap.size wJ wr)) (fun _ ix _ => m - (RowKit.intOf ix).toNat)
    case atStart => exact ⟨0, 0, Nat.zero_le _, Nat.le_refl _, rfl, rfl, H0, HB0⟩
    case round =>
      obtain ⟨j, b, hj, hbj, rfl, rfl, HF, HBj⟩ := hrel
      clear H0 HB0
      have c2 := (HBj.out.cell (p := ⟨J, 1, none⟩) HRT.out.2).trans c1
      clear c1
      by_cases hlt : j < m
      · have hjl : j < M.length := by rw [HM.out]; exact hlt
        obtain ⟨g, off, ra, rc, rfl, hg, -, -, -, -, c4, -, -⟩ := RdPt.at (HRT.out.1.on HBj.out) hjl
        have hfe := HF.out
        rw [List.drop_eq_getElem_cons hjl] at hfe
        unfold bsQ at hfe
        have i1 : (j : Int) < (m : Int) := by omega
        have i2 : (0 : Int) ≤ (j : Int) := by omega
        cases he : (M[j]).2.2.begun with
        | true =>
          rw [he] at c4
          rw [he, if_pos rfl] at hfe
          have HF2 := hideD hfe
          clear hfe he HF
          go_wp2
          go_roundw
          case rel => exact ⟨j + 1, j, hlt, by omega, by go_num, rfl, HF2, HBj⟩
          case measure => simp [RowKit.intOf]; omega
        | false =>
          rw [he] at c4
          rw [he, if_neg (by decide)] at hfe
          have HF2 := hideD hfe
          clear hfe he HF
          go_wp2
          go_roundw
          case rel => exact ⟨j + 1, b, hlt, by omega, by go_num, rfl, HF2, HBj⟩
          case measure => simp [RowKit.intOf]; omega
      · have hfe := HF.out
        rw [List.drop_eq_nil_of_le (by rw [HM.out]; omega)] at hfe
        have hbe : b = bb := hfe
        subst hbe
        have i1 : ¬ (j : Int) < (m : Int) := by omega
        have hd := (HT.out.on HBj.out).drop HN0.out
        obtain ⟨Rr, hRr⟩ : ∃ R, dpsM dJ (M.take (bsQ 0 0 M)) = R := ⟨_, rfl⟩
        rw [hRr, HBB.out] at hd
        clear hfe HF HBj HRT hRr HBB
        by_cases he : Rr.2 = 0
        · rw [if_pos he] at hd
          have HE := hideD he
          clear he
          go_wp2_with (first
            | (go_at_call 37; refine hd.mono ?_; rintro e w5 ⟨⟨rfl, -⟩, hrc⟩; have hrc := hrc HE.out; clear hd)
            | (go_at_call 25; refine hrc.mono ?_; rintro e w6 ⟨v, rfl, hq⟩; have HQ := hideD hq; clear hrc hq)
            | fail)
          (try simp only [Exit.inBlock, Exit.then])
          refine bodyPost_ret (results_tmp3 rfl _ _ _) rfl ?_
          rw [HR.out]
          exact HQ.out
        · rw [if_neg he] at hd
          have HE := hideD he
          clear he
          go_wp2_with (first
            | (go_at_call 37; refine hd.mono ?_; rintro e w5 ⟨⟨rfl, hq⟩, -⟩; have HQ := hideD (hq HE.out); clear hd hq)
            | fail)
          (try simp only [Exit.inBlock, Exit.then])
          refine bodyPost_ret (results_tmp3 rfl _ _ _) rfl ?_
          rw [HR.out]
          exact HQ.out
  | true =>
    have he := hbe rfl
    subst he
    clear hbe
    go_enter Try.func12, Try.ntmps12
    go_upto_region 14 with (first
      | (go_at_call 35; refine hps.mono ?_; rintro e w2 ⟨v2, rfl, ho2, b2⟩; have HB2 := hideD b2; obtain ⟨lg, lo, lc, rfl, hlc, hlm, -, -, hcs⟩ := HROW.out _ _ ho2; have HT := hideD (HTJ.out _ _ ho2 b2); obtain ⟨r0, r4, r5⟩ := hcs _ ((Below.refl w2.heap.size w2).alloc (Nat.le_refl _) (.cells #[.pointer (some ⟨Y, 0, none⟩), .slice (some ⟨lg, lo, none⟩) (m0 + 1) lc, .bool false] 53)); clear hps b2 ho2 hcs)
      | fail)
    generalize w2.alloc (.cells #[.pointer (some ⟨Y, 0, none⟩), .slice (some ⟨lg, lo, none⟩) (m0 + 1) lc, .bool false] 53) = wJ at *
    generalize w2.heap.size = J at *
    clear r0 r4 r5 HB2 HROW HTJ
    have HM := HML
    clear HML
    generalize m0 + 1 = m at *
    obtain ⟨dJ, hdJ⟩ : ∃ k, d = k := ⟨_, rfl⟩
    rw [hdJ] at HT
    have HR := hideD (show qopM d = qtlM dJ M by rw [← hdJ]; exact HOP.out)
    clear hdJ HOP
    obtain ⟨a, c, hJl, c1, hr, hlc, hcm⟩ := HT.out.c1
    have hml := HT.out.l
    unfold maxLen at hcm
    rw [HM.out] at c1 hr hlc hml
    have HRT := hideD (And.intro hr hJl)
    obtain ⟨bb, hbb⟩ : ∃ b, bsQ 0 0 M = b := ⟨_, rfl⟩
    have HBB := hideD hbb
    have H0 := hideD (show bsQ 0 0 (M.drop 0) = bb from hbb)
    have HB0 := hideD (Below.refl wJ.heap.size wJ)
    clear hr hJl hbb
    go_wp2
    go_loopw [9, 80] (fun rb ix wr => ∃ (j b : Nat), j ≤ m ∧ b ≤ j ∧ ix = .int .i64 (j : Int) ∧ rb = .int .i64 (b : Int) ∧ Hid (bsQ b j (M.drop j) = bb) ∧ Hid (Below wJ.heap.size wJ wr)) (fun _ ix _ => m - (RowKit.intOf ix).toNat)
    case atStart => exact ⟨0, 0, Nat.zero_le _, Nat.le_refl _, rfl, rfl, H0, HB0⟩
    case round =>
      obtain ⟨j, b, hj, hbj, rfl, rfl, HF, HBj⟩ := hrel
      clear H0 HB0
      have c2 := (HBj.out.cell (p := ⟨J, 1, none⟩) HRT.out.2).trans c1
      clear c1
      by_cases hlt : j < m
      · have hjl : j < M.length := by rw [HM.out]; exact hlt
        obtain ⟨g, off, ra, rc, rfl, hg, -, -, -, -, c4, -, -⟩ := RdPt.at (HRT.out.1.on HBj.out) hjl
        have hfe := HF.out
        rw [List.drop_eq_getElem_cons hjl] at hfe
        unfold bsQ at hfe
        have i1 : (j : Int) < (m : Int) := by omega
        have i2 : (0 : Int) ≤ (j : Int) := by omega
        cases he : (M[j]).2.2.begun with
        | true =>
          rw [he] at c4
          rw [he, if_pos rfl] at hfe
          have HF2 := hideD hfe
          clear hfe he HF
          go_wp2
          go_roundw
          case rel => exact ⟨j + 1, j, hlt, by omega, by go_num, rfl, HF2, HBj⟩
          case measure => simp [RowKit.intOf]; omega
        | false =>
          rw [he] at c4
          rw [he, if_neg (by decide)] at hfe
          have HF2 := hideD hfe
          clear hfe he HF
          go_wp2
          go_roundw
          case rel => exact ⟨j + 1, b, hlt, by omega, by go_num, rfl, HF2, HBj⟩
          case measure => simp [RowKit.intOf]; omega
      · have hfe := HF.out
        rw [List.drop_eq_nil_of_le (by rw [HM.out]; omega)] at hfe
        have hbe : b = bb := hfe
        subst hbe
        have i1 : ¬ (j : Int) < (m : Int) := by omega
        have hd := (HT.out.on HBj.out).drop HN0.out
        obtain ⟨Rr, hRr⟩ : ∃ R, dpsM dJ (M.take (bsQ 0 0 M)) = R := ⟨_, rfl⟩
        rw [hRr, HBB.out] at hd
        clear hfe HF HBj HRT hRr HBB
        by_cases he : Rr.2 = 0
        · rw [if_pos he] at hd
          have HE := hideD he
          clear he
          go_wp2_with (first
            | (go_at_call 37; refine hd.mono ?_; rintro e w5 ⟨⟨rfl, -⟩, hrc⟩; have hrc := hrc HE.out; clear hd)
            | (go_at_call 25; refine hrc.mono ?_; rintro e w6 ⟨v, rfl, hq⟩; have HQ := hideD hq; clear hrc hq)
            | fail)
          (try simp only [Exit.inBlock, Exit.then])
          refine bodyPost_ret (results_tmp3 rfl _ _ _) rfl ?_
          rw [HR.out]
          exact HQ.out
        · rw [if_neg he] at hd
          have HE := hideD he
          clear he
          go_wp2_with (first
            | (go_at_call 37; refine hd.mono ?_; rintro e w5 ⟨⟨rfl, hq⟩, -⟩; have HQ := hideD (hq HE.out); clear hd hq)
            | fail)
          (try simp only [Exit.inBlock, Exit.then])
          refine bodyPost_ret (results_tmp3 rfl _ _ _) rfl ?_
          rw [HR.out]
          exact HQ.out
set_option maxHeartbeats 8000000 in
theorem qjopen_nil {w : World} {Y n0 : Nat} {G : Nat → Prop} {d : Dk} (h : QD w Y G d) (ok : Ok d n0 1000000) (hn0 : n0 ≤ 100000) (hby : ByD d) (hL : d.L = []) :
    Calls Try.prog 12 #[.pointer (some ⟨Y, 0, none⟩)] w fun e w' => QoOut w w' Y G (qopM d) e := by
  have hd : ¬ (d.dead = true ∧ d.L ≠ []) := fun e => e.2 hL
  have hs : sgsM d.L = [] := by rw [hL]; rfl
  have hk : okQ (sgsM d.L) = true := by rw [hs]; rfl
  have hlm : lstM d (sgsM d.L) = (d, 0, sgsM d.L) := by rw [hs]; rfl
  have hop : qopM d = qtlM d (sgsM d.L) := by
    have := qop_tail hd hk (by rw [hlm])
    rw [hlm] at this
    exact this
  have HOP := hideD hop
  have HTJ := hideD (show ∀ w2 v, OwnK w2 w.heap.size 81 6 rPt v (sgsM d.L) → Below w.heap.size w w2 → Tj w (w2.alloc (.cells #[.pointer (some ⟨Y, 0, none⟩), v, .bool false] 53)) w2.heap.size Y G n0 d (sgsM d.L) from fun w2 v ho b2 => opn_tj h ok hn0 ho b2)
  obtain ⟨Lv, E, hq⟩ := h
  have hps := qparts_any hq ok hn0 hby
  unfold PsOut at hps
  rw [hk] at hps
  simp only [forall_const] at hps
  obtain ⟨g1, g2, g3, g4⟩ := id hq
  obtain ⟨c0, _⟩ := g4 0 _ rfl
  obtain ⟨c3, _⟩ := g4 3 _ rfl
  have hEl : E.length = 0 := by
    have : (mmE E).length = d.L.length := by rw [g2]
    rw [hL] at this
    simpa [mmE] using this
  obtain ⟨a, c, rfl, hlc, hcm⟩ := id g3.form
  unfold maxLen at hcm
  rw [hEl] at c0
  obtain ⟨M, hM⟩ : ∃ k, sgsM d.L = k := ⟨_, rfl⟩
  rw [hM] at HTJ hps HOP hs
  have HML := hideD (show M.length = 0 by rw [hs]; rfl)
  have HN0 := hideD hn0
  obtain ⟨dd, hdd⟩ : ∃ b, d.dead = b := ⟨_, rfl⟩
  rw [hdd] at c3
  have k2 : (0 : Int) ≤ (0 : Int) := by omega
  clear hq g1 g2 g3 g4 hd hlm hop ok hn0 hby hk hM hL hdd hs hEl
  cases dd with
  | false =>
    go_enter Try.func12, Try.ntmps12
    go_upto_region 14 with (first
      | (go_at_call 35; refine hps.mono ?_; rintro e w2 ⟨v2, rfl, ho2, b2⟩; have HB2 := hideD b2; obtain ⟨la, lc, rfl, hlc0⟩ : ∃ a c, v2 = .slice a 0 c ∧ c ≤ 9223372036854775807 := (by obtain ⟨a, c, e, _, hc⟩ := (own_rdPt ho2).form; rw [HML.out] at e; exact ⟨a, c, e, hc⟩); have HT := hideD (HTJ.out _ _ ho2 b2); clear hps b2 ho2)
      | fail)
    generalize w2.alloc (.cells #[.pointer (some ⟨Y, 0, none⟩), .slice la 0 lc, .bool false] 53) = wJ at *
    generalize w2.heap.size = J at *
    clear HB2 HTJ
    have HM := HML
    clear HML
    obtain ⟨m, hm0⟩ : ∃ k, (0 : Nat) = k := ⟨_, rfl⟩
    have HM := hideD (show M.length = m by rw [← hm0]; exact HM.out)
    obtain ⟨dJ, hdJ⟩ : ∃ k, d = k := ⟨_, rfl⟩
    rw [hdJ] at HT
    have HR := hideD (show qopM d = qtlM dJ M by rw [← hdJ]; exact HOP.out)
    clear hdJ HOP hm0
    obtain ⟨a, c, hJl, c1, hr, hlc, hcm⟩ := HT.out.c1
    have hml := HT.out.l
    unfold maxLen at hcm
    rw [HM.out] at c1 hr hlc hml
    have HRT := hideD (And.intro hr hJl)
    obtain ⟨bb, hbb⟩ : ∃ b, bsQ 0 0 M = b := ⟨_, rfl⟩
    have HBB := hideD hbb
    have H0 := hideD (show bsQ 0 0 (M.drop 0) = bb from hbb)
    have HB0 := hideD (Below.refl wJ.heap.size wJ)
    clear hr hJl hbb
    go_wp2
    go_loopw [9, 80] (fun rb ix wr => ∃ (j b : Nat), j ≤ m ∧ b ≤ j ∧ ix = .int .i64 (j : Int) ∧ rb = .int .i64 (b : Int) ∧ Hid (bsQ b j (M.drop j) = bb) ∧ Hid (Below wJ.heap.size wJ wr)) (fun _ ix _ => m - (RowKit.intOf ix).toNat)
    case atStart => exact ⟨0, 0, Nat.zero_le _, Nat.le_refl _, rfl, rfl, H0, HB0⟩
    case round =>
      obtain ⟨j, b, hj, hbj, rfl, rfl, HF, HBj⟩ := hrel
      clear H0 HB0
      have c2 := (HBj.out.cell (p := ⟨J, 1, none⟩) HRT.out.2).trans c1
      clear c1
      by_cases hlt : j < m
      · have hjl : j < M.length := by rw [HM.out]; exact hlt
        obtain ⟨g, off, ra, rc, rfl, hg, -, -, -, -, c4, -, -⟩ := RdPt.at (HRT.out.1.on HBj.out) hjl
        have hfe := HF.out
        rw [List.drop_eq_getElem_cons hjl] at hfe
        unfold bsQ at hfe
        have i1 : (j : Int) < (m : Int) := by omega
        have i2 : (0 : Int) ≤ (j : Int) := by omega
        cases he : (M[j]).2.2.begun with
        | true =>
          rw [he] at c4
          rw [he, if_pos rfl] at hfe
          have HF2 := hideD hfe
          clear hfe he HF
          go_wp2
          go_roundw
          case rel => exact ⟨j + 1, j, hlt, by omega, by go_num, rfl, HF2, HBj⟩
          case measure => simp [RowKit.intOf]; omega
        | false =>
          rw [he] at c4
          rw [he, if_neg (by decide)] at hfe
          have HF2 := hideD hfe
          clear hfe he HF
          go_wp2
          go_roundw
          case rel => exact ⟨j + 1, b, hlt, by omega, by go_num, rfl, HF2, HBj⟩
          case measure => simp [RowKit.intOf]; omega
      · have hfe := HF.out
        rw [List.drop_eq_nil_of_le (by rw [HM.out]; omega)] at hfe
        have hbe : b = bb := hfe
        subst hbe
        have i1 : ¬ (j : Int) < (m : Int) := by omega
        have hd := (HT.out.on HBj.out).drop HN0.out
        obtain ⟨Rr, hRr⟩ : ∃ R, dpsM dJ (M.take (bsQ 0 0 M)) = R := ⟨_, rfl⟩
        rw [hRr, HBB.out] at hd
        clear hfe HF HBj HRT hRr HBB
        by_cases he : Rr.2 = 0
        · rw [if_pos he] at hd
          have HE := hideD he
          clear he
          go_wp2_with (first
            | (go_at_call 37; refine hd.mono ?_; rintro e w5 ⟨⟨rfl, -⟩, hrc⟩; have hrc := hrc HE.out; clear hd)
            | (go_at_call 25; refine hrc.mono ?_; rintro e w6 ⟨v, rfl, hq⟩; have HQ := hideD hq; clear hrc hq)
            | fail)
          (try simp only [Exit.inBlock, Exit.then])
          refine bodyPost_ret (results_tmp3 rfl _ _ _) rfl ?_
          rw [HR.out]
          exact HQ.out
        · rw [if_neg he] at hd
          have HE := hideD he
          clear he
          go_wp2_with (first
            | (go_at_call 37; refine hd.mono ?_; rintro e w5 ⟨⟨rfl, hq⟩, -⟩; have HQ := hideD (hq HE.out); clear hd hq)
            | fail)
          (try simp only [Exit.inBlock, Exit.then])
          refine bodyPost_ret (results_tmp3 rfl _ _ _) rfl ?_
          rw [HR.out]
          exact HQ.out
  | true =>
    go_enter Try.func12, Try.ntmps12
    go_upto_region 14 with (first
      | (go_at_call 35; refine hps.mono ?_; rintro e w2 ⟨v2, rfl, ho2, b2⟩; have HB2 := hideD b2; obtain ⟨la, lc, rfl, hlc0⟩ : ∃ a c, v2 = .slice a 0 c ∧ c ≤ 9223372036854775807 := (by obtain ⟨a, c, e, _, hc⟩ := (own_rdPt ho2).form; rw [HML.out] at e; exact ⟨a, c, e, hc⟩); have HT := hideD (HTJ.out _ _ ho2 b2); clear hps b2 ho2)
      | fail)
    generalize w2.alloc (.cells #[.pointer (some ⟨Y, 0, none⟩), .slice la 0 lc, .bool false] 53) = wJ at *
    generalize w2.heap.size = J at *
    clear HB2 HTJ
    have HM := HML
    clear HML
    obtain ⟨m, hm0⟩ : ∃ k, (0 : Nat) = k := ⟨_, rfl⟩
    have HM := hideD (show M.length = m by rw [← hm0]; exact HM.out)
    obtain ⟨dJ, hdJ⟩ : ∃ k, d = k := ⟨_, rfl⟩
    rw [hdJ] at HT
    have HR := hideD (show qopM d = qtlM dJ M by rw [← hdJ]; exact HOP.out)
    clear hdJ HOP hm0
    obtain ⟨a, c, hJl, c1, hr, hlc, hcm⟩ := HT.out.c1
    have hml := HT.out.l
    unfold maxLen at hcm
    rw [HM.out] at c1 hr hlc hml
    have HRT := hideD (And.intro hr hJl)
    obtain ⟨bb, hbb⟩ : ∃ b, bsQ 0 0 M = b := ⟨_, rfl⟩
    have HBB := hideD hbb
    have H0 := hideD (show bsQ 0 0 (M.drop 0) = bb from hbb)
    have HB0 := hideD (Below.refl wJ.heap.size wJ)
    clear hr hJl hbb
    go_wp2
    go_loopw [9, 80] (fun rb ix wr => ∃ (j b : Nat), j ≤ m ∧ b ≤ j ∧ ix = .int .i64 (j : Int) ∧ rb = .int .i64 (b : Int) ∧ Hid (bsQ b j (M.drop j) = bb) ∧ Hid (Below wJ.heap.size wJ wr)) (fun _ ix _ => m - (RowKit.intOf ix).toNat)
    case atStart => exact ⟨0, 0, Nat.zero_le _, Nat.le_refl _, rfl, rfl, H0, HB0⟩
    case round =>
      obtain ⟨j, b, hj, hbj, rfl, rfl, HF, HBj⟩ := hrel
      clear H0 HB0
      have c2 := (HBj.out.cell (p := ⟨J, 1, none⟩) HRT.out.2).trans c1
      clear c1
      by_cases hlt : j < m
      · have hjl : j < M.length := by rw [HM.out]; exact hlt
        obtain ⟨g, off, ra, rc, rfl, hg, -, -, -, -, c4, -, -⟩ := RdPt.at (HRT.out.1.on HBj.out) hjl
        have hfe := HF.out
        rw [List.drop_eq_getElem_cons hjl] at hfe
        unfold bsQ at hfe
        have i1 : (j : Int) < (m : Int) := by omega
        have i2 : (0 : Int) ≤ (j : Int) := by omega
        cases he : (M[j]).2.2.begun with
        | true =>
          rw [he] at c4
          rw [he, if_pos rfl] at hfe
          have HF2 := hideD hfe
          clear hfe he HF
          go_wp2
          go_roundw
          case rel => exact ⟨j + 1, j, hlt, by omega, by go_num, rfl, HF2, HBj⟩
          case measure => simp [RowKit.intOf]; omega
        | false =>
          rw [he] at c4
          rw [he, if_neg (by decide)] at hfe
          have HF2 := hideD hfe
          clear hfe he HF
          go_wp2
          go_roundw
          case rel => exact ⟨j + 1, b, hlt, by omega, by go_num, rfl, HF2, HBj⟩
          case measure => simp [RowKit.intOf]; omega
      · have hfe := HF.out
        rw [List.drop_eq_nil_of_le (by rw [HM.out]; omega)] at hfe
        have hbe : b = bb := hfe
        subst hbe
        have i1 : ¬ (j : Int) < (m : Int) := by omega
        have hd := (HT.out.on HBj.out).drop HN0.out
        obtain ⟨Rr, hRr⟩ : ∃ R, dpsM dJ (M.take (bsQ 0 0 M)) = R := ⟨_, rfl⟩
        rw [hRr, HBB.out] at hd
        clear hfe HF HBj HRT hRr HBB
        by_cases he : Rr.2 = 0
        · rw [if_pos he] at hd
          have HE := hideD he
          clear he
          go_wp2_with (first
            | (go_at_call 37; refine hd.mono ?_; rintro e w5 ⟨⟨rfl, -⟩, hrc⟩; have hrc := hrc HE.out; clear hd)
            | (go_at_call 25; refine hrc.mono ?_; rintro e w6 ⟨v, rfl, hq⟩; have HQ := hideD hq; clear hrc hq)
            | fail)
          (try simp only [Exit.inBlock, Exit.then])
          refine bodyPost_ret (results_tmp3 rfl _ _ _) rfl ?_
          rw [HR.out]
          exact HQ.out
        · rw [if_neg he] at hd
          have HE := hideD he
          clear he
          go_wp2_with (first
            | (go_at_call 37; refine hd.mono ?_; rintro e w5 ⟨⟨rfl, hq⟩, -⟩; have HQ := hideD (hq HE.out); clear hd hq)
            | fail)
          (try simp only [Exit.inBlock, Exit.then])
          refine bodyPost_ret (results_tmp3 rfl _ _ _) rfl ?_
          rw [HR.out]
          exact HQ.out

theorem opn_drop {w w2 W : World} {Y n0 : Nat} {G : Nat → Prop} {d : Dk} {v : Value} (h : QD w Y G d) (ok : Ok d n0 1000000) (hn0 : n0 ≤ 100000) (ho : OwnK w2 w.heap.size 81 6 rPt v (sgsM d.L)) (b2 : Below w.heap.size w w2)
    (hW : Below (w2.alloc (.cells #[.pointer (some ⟨Y, 0, none⟩), v, .bool false] 53)).heap.size (w2.alloc (.cells #[.pointer (some ⟨Y, 0, none⟩), v, .bool false] 53)) W) (x : Int) :
    Calls Try.prog 36 #[.pointer (some ⟨Y, 0, none⟩), .int .i64 x] W fun e w5 => e = .returned (.int .i64 (opM d x (drpF d x)).2) ∧ (QD w5 Y (nF G w) (opM d x (drpF d x)).1 ∧ Kf G w w5) ∧
      (∀ p : Addr, w.heap.size ≤ p.block → p.block < w2.heap.size → w2.heap.size + 1 ≤ w5.heap.size ∧ ∀ u, W.cell? p = some u → w5.cell? p = some u) ∧
      Bn w5 w2.heap.size (qjC Y v false) ∧ ∃ G5, ¬ G5 w2.heap.size ∧ QD w5 Y G5 (opM d x (drpF d x)).1 ∧ RdK (fun b => ¬ G5 b ∧ b ≠ w2.heap.size) w5 6 (rPt (fun b => ¬ G5 b ∧ b ≠ w2.heap.size) w5) (sgsM d.L) v ∧ ∀ i, cF G5 w5 i → nF G w i := by
  have hal : Below w2.heap.size w2 (w2.alloc (.cells #[.pointer (some ⟨Y, 0, none⟩), v, .bool false] 53)) := (Below.refl _ _).alloc (Nat.le_refl _) _
  have hsz : (w2.alloc (.cells #[.pointer (some ⟨Y, 0, none⟩), v, .bool false] 53)).heap.size = w2.heap.size + 1 := by simp
  have hs2 := b2.size
  have hsW := hW.size
  have hB : Bn W w2.heap.size (qjC Y v false) := (Bn.new w2 [.pointer (some ⟨Y, 0, none⟩), v, .bool false] 53 _ rfl).on hW
  have hJ : ¬ cF G w w2.heap.size := fun e => by have := e.2; omega
  have hD : QD W Y (cF G w) d := (((h.clip).on b2).on hal).on hW
  have hr : RdK (fun b => ¬ cF G w b ∧ b ≠ w2.heap.size) W 6 (rPt (fun b => ¬ cF G w b ∧ b ≠ w2.heap.size) W) (sgsM d.L) v :=
    RdK.stay kp_Pt (ho.rd kp_Pt) (fun b hb hl => ⟨⟨fun e => by have := e.2; omega, by omega⟩, (hW.block b (by omega)).trans (hal.block b hl)⟩)
  refine (qdrop_any hD ok.fuse.2 (by have := ok.len; omega)).mono ?_
  rintro e w5 ⟨rfl, p, k⟩
  have hs5 := k.size
  obtain ⟨m1, m2, m3, m4⟩ := qj_mid hB hJ hr k p
  refine ⟨rfl, ⟨p.keep (fun _ _ _ => rfl) (fun j _ hj => hj.elim (fun h => .inl h.1) (fun h => .inr (by omega))), ((Kf.of b2 (Nat.le_refl _)).alloc _).trans ((Kf.of hW (Nat.le_refl _)).trans (k.mono fun j h => h.1))⟩, fun q h1 h2 => ⟨by omega, fun u hu => ?_⟩, m1, _, m2, m3, m4, fun i hi => hi.1.elim (fun h => .inl h.1) (fun h => .inr (by omega))⟩
  exact keep_cell (k.block q.block (by omega) (fun e => by have := e.2; omega)) hu
theorem opn_copy {w w5 : World} {J Y m n n0 g off c : Nat} {G G5 : Nat → Prop} {d : Dk} {L : List SgT} (hB : Bn w5 J (qjC Y (.slice (some ⟨g, off, none⟩) n c) false)) (hJ : ¬ G5 J) (p : QD w5 Y G5 d) (hr : RdK (fun b => ¬ G5 b ∧ b ≠ J) w5 6 (rPt (fun b => ¬ G5 b ∧ b ≠ J) w5) L (.slice (some ⟨g, off, none⟩) n c))
    (hgl : g < w5.heap.size) (hm : m ≤ L.length) (hk : Kf G w w5) (hg : ∀ i, cF G5 w5 i → nF G w i) (hwJ : w.heap.size ≤ J) (ok : Ok d n0 1000000) (hl : L.length ≤ 100000) (hrc : (opR L).length ≤ 1000000) :
    ∃ xs : List Value, (∀ c', Src Try.prog 6 51 (.slice (some ⟨g, off, none⟩) m c') m xs (w5.alloc (.cells #[] 81))) ∧ ∀ vb wb, wb.ownsRow w5.heap.size 81 6 vb (0 + m) ([] ++ xs) → (w5.alloc (.cells #[] 81)).grownBy wb (Value.slice (some ⟨w5.heap.size, 0, none⟩) 0 0).ownBlock →
      (wb.cell? ⟨J, 1, none⟩ = some (.slice (some ⟨g, off, none⟩) n c) ∧ wb.frozen? ⟨J, 1, none⟩ = false) ∧ Tj w (wb.setCell ⟨J, 1, none⟩ vb) J Y G n0 d (L.take m) := by
  have hal : Below w5.heap.size w5 (w5.alloc (.cells #[] 81)) := (Below.refl _ _).alloc (Nat.le_refl _) _
  obtain ⟨xs, hx1, hx2⟩ := pt_copy hr 0 m (by omega)
  refine ⟨xs, fun c' => hx1 _ _ _ (fun h => by rw [Nat.zero_mul, Nat.add_zero]) (fun q hq => by subst hq; exact hal.block g hgl), fun vb wb ho hgr => ?_⟩
  have hgo : Below w5.heap.size w5 wb := hal.grown hgr (by show w5.heap.size ≤ (w5.alloc _).heap.size; simp) (fun k hk => by have : w5.heap.size = k := Option.some.inj hk; omega)
  rw [Nat.zero_add, List.nil_append] at ho
  obtain ⟨z1, z2, z3⟩ := qj_copy hB hJ p hx2 hgo ho
  rw [List.drop_zero] at z2
  refine ⟨z1 1 _ rfl, ⟨_, z2, hg⟩, hk.transN (z3.mono (fun j hj => .inr (by rw [hj]; exact hwJ))), ok, hwJ, ?_, ?_⟩
  · rw [List.length_take]
    omega
  · exact Nat.le_trans (opR_sub (List.take_sublist _ _)) hrc
set_option maxHeartbeats 8000000 in
theorem qjopen_unf {w : World} {Y n0 : Nat} {G : Nat → Prop} {d : Dk} (h : QD w Y G d) (ok : Ok d n0 1000000) (hn0 : n0 ≤ 100000) (hby : ByD d) (hdf : d.dead = false) (hk : okQ (sgsM d.L) = true) {m : Nat} (hm0 : (sgsM d.L).length = m + 1) (hlt0 : m < (sgsM d.L).length)
    (hun : unfB ((sgsM d.L)[m]).2.2 = true) :
    Calls Try.prog 12 #[.pointer (some ⟨Y, 0, none⟩)] w fun e w' => QoOut w w' Y G (qopM d) e := by
  have hd : ¬ (d.dead = true ∧ d.L ≠ []) := fun e => by rw [hdf] at e; exact absurd e.1 (by decide)
  have hlast : (sgsM d.L).getLast? = some ((sgsM d.L)[m]) := by
    rw [List.getLast?_eq_getElem?, hm0, Nat.add_sub_cancel, List.getElem?_eq_getElem hlt0]
  have hmx : m + 1 ≤ 100000 := by
    rw [sgs_len] at hm0
    have := ok.len
    omega
  have hrc : (opR (sgsM d.L)).length ≤ 1000000 := Nat.le_trans (opR_sgs d.L) (by have := ok.us; omega)
  have HROW := hideD (show ∀ w2 v, OwnK w2 w.heap.size 81 6 rPt v (sgsM d.L) → ∃ g off c, v = .slice (some ⟨g, off, none⟩) (m + 1) c ∧ m + 1 ≤ c ∧ c ≤ 9223372036854775807 ∧ w.heap.size ≤ g ∧ g < w2.heap.size ∧ ∀ wk, Below w2.heap.size w2 wk →
    wk.cell? ⟨g, off + m * 6, none⟩ = some (.int .i64 ((sgsM d.L)[m]).1) ∧ wk.cell? ⟨g, off + m * 6 + 4, none⟩ = some (.bool ((sgsM d.L)[m]).2.2.begun) ∧ wk.cell? ⟨g, off + m * 6 + 5, none⟩ = some (.bool ((sgsM d.L)[m]).2.2.ended) from fun w2 v ho => opn_row ho hm0 hlt0)
  obtain ⟨x, hx⟩ : ∃ k, (sgsM d.L)[m] = k := ⟨_, rfl⟩
  rw [hx] at hun hlast HROW
  have hlm : lstM d (sgsM d.L) = ((opM d x.1 (drpF d x.1)).1, (opM d x.1 (drpF d x.1)).2, (sgsM d.L).dropLast) := by
    unfold lstM
    rw [hlast]
    simp only
    rw [if_pos hun]
  have hbg : x.2.2.begun = true ∧ x.2.2.ended = false := by
    unfold unfB at hun
    simpa using hun
  have okd := ok.drp x.1
  have HDR := hideD (fun (w2 W : World) (v : Value) (ho : OwnK w2 w.heap.size 81 6 rPt v (sgsM d.L)) (b2 : Below w.heap.size w w2) (hW : Below (w2.alloc (.cells #[.pointer (some ⟨Y, 0, none⟩), v, .bool false] 53)).heap.size (w2.alloc (.cells #[.pointer (some ⟨Y, 0, none⟩), v, .bool false] 53)) W) => opn_drop h ok hn0 ho b2 hW x.1)
  obtain ⟨D, hDD⟩ : ∃ k, opM d x.1 (drpF d x.1) = k := ⟨_, rfl⟩
  rw [hDD] at hlm okd HDR
  obtain ⟨nn, hnn⟩ : ∃ b, x.1 = b := ⟨_, rfl⟩
  rw [hnn, hbg.1, hbg.2] at HROW
  rw [hnn] at HDR
  obtain ⟨Lv, E, hq⟩ := h
  have hps := qparts_any hq ok hn0 hby
  unfold PsOut at hps
  rw [hk] at hps
  simp only [forall_const] at hps
  obtain ⟨g1, g2, g3, g4⟩ := id hq
  obtain ⟨c3, _⟩ := g4 3 _ rfl
  rw [hdf] at c3
  have hop0 : D.2 = 0 → qopM d = qtlM D.1 (sgsM d.L).dropLast := fun e => by
    have := qop_tail hd hk (by rw [hlm]; exact e)
    rw [hlm] at this
    exact this
  have hop1 : D.2 ≠ 0 → qopM d = (D.1, 8, []) := fun e => by
    have := qop_lst hd hk (by rw [hlm]; exact e)
    rw [hlm] at this
    exact this
  obtain ⟨L, hL⟩ : ∃ k, sgsM d.L = k := ⟨_, rfl⟩
  rw [hL] at HDR hps HROW hop0 hm0 hrc
  have HML := hideD (And.intro hm0 hrc)
  have HN0 := hideD hn0
  have k1 : (0 : Int) < (m : Int) + 1 := by omega
  have k2 : (0 : Int) ≤ (m : Int) := by omega
  have k3 : (m : Int) < (m : Int) + 1 := by omega
  have k4 : (m : Int) ≤ (m : Int) + 1 := by omega
  have HOK := hideD okd
  by_cases he : D.2 = 0
  · have HOP := hideD (hop0 he)
    rw [he] at HDR
    obtain ⟨D1, hD1⟩ : ∃ k, D.1 = k := ⟨_, rfl⟩
    rw [hD1] at HOP HDR HOK
    clear hq g1 g2 g3 g4 hd hlast hlm hop0 hop1 ok hn0 hby hdf hk hun hbg hnn hm0 hlt0 hL hx hDD okd he hrc hD1
    go_enter Try.func12, Try.ntmps12
    go_upto_region 11 with (first
      | (go_at_call 35; refine hps.mono ?_; rintro e w2 ⟨v2, rfl, ho2, b2⟩; obtain ⟨lg, lo, lc, rfl, hlc, hlm, hlg, hlw, hcs⟩ := HROW.out _ _ ho2; have hal : Below w2.heap.size w2 (w2.alloc (.cells #[.pointer (some ⟨Y, 0, none⟩), .slice (some ⟨lg, lo, none⟩) (m + 1) lc, .bool false] 53)) := (Below.refl w2.heap.size w2).alloc (Nat.le_refl _) _; obtain ⟨r0, r4, r5⟩ := hcs _ hal; have hdr := HDR.out _ (w2.alloc (.cells #[.pointer (some ⟨Y, 0, none⟩), .slice (some ⟨lg, lo, none⟩) (m + 1) lc, .bool false] 53)) _ ho2 b2 (Below.refl _ _); have HB2 := hideD b2.size; clear hps b2 ho2 hcs hal)
      | fail)
    go_upto_region 13 with (first
      | (go_at_call 36; refine hdr.mono ?_; rintro e w5 ⟨rfl, hA, hcell, hB5, hG5⟩; have hS := (hcell ⟨lg, lo + m * 6, none⟩ hlg hlw).2 _ r0; have hs5 := (hcell ⟨lg, lo + m * 6, none⟩ hlg hlw).1; have HA := hideD (And.intro hA.2 (And.intro hB5 hG5)); clear hdr hA hcell hB5 hG5)
      | fail)
    obtain ⟨io, hio, hio0, hio1, hio2⟩ := inf_getJ inf_part
    have hown : (w5.alloc (.cells #[] 81)).ownsRow w5.heap.size 81 6 (.slice (some ⟨w5.heap.size, 0, none⟩) 0 0) 0 [] := World.ownsRow_made w5 #[] 0 (Nat.le_refl _) (Nat.zero_le _) rfl
    obtain ⟨hkw, hB5, G5, y1, y2, y3, y4⟩ := HA.out
    obtain ⟨xs, hx1, hx2⟩ := opn_copy (m := m) hB5 y1 y2 y3 (by omega) (by rw [HML.out.1]; omega) hkw y4 HB2.out HOK.out (by rw [HML.out.1]; exact hmx) HML.out.2
    have hsrc := hx1 lc
    have HFIN := hideD hx2
    have j1 : (m : Int) ≤ (lc : Int) := by omega
    clear hkw hB5 G5 y1 y2 y3 y4 hx1 hx2 HA hS r0 r4 r5
    go_upto_region 14 with (first
      | (at_builtin; refine wpList_append_at _ rfl _ _ 51 51 rfl w5.heap.size 81 io (.agg #[.int .i64 0, .int .i64 0, .slice none 0 0, .bool false, .bool false, .bool false]) 6 48 Try.underlying51 hio hio0 hio1 hio2 rfl (.slice (some ⟨w5.heap.size, 0, none⟩) 0 0) 0 [] rfl hown _ m xs rfl hsrc m (.inr (by omega)) (Nat.le_refl _) (by unfold maxLen; omega) (by simp) ?_; intro vb wb hOb hgb hat; obtain ⟨a3, c3, rfl, hl3, hm3⟩ := ownf_formJ hOb; obtain ⟨⟨z1, z2⟩, hZ⟩ := HFIN.out _ _ hOb hgb; have HT0 := hideD hZ; clear hOb hgb hat hsrc hown hZ)
      | fail)
    rw [Nat.zero_add] at HT0
    have HT := hideD (show Tj w _ _ Y G n0 D1 L.dropLast by rw [List.dropLast_eq_take, HML.out.1, Nat.add_sub_cancel]; exact HT0.out)
    have HM := hideD (show L.dropLast.length = m by rw [List.length_dropLast, HML.out.1]; omega)
    clear HT0 HFIN HOK
    generalize wb.setCell ⟨w2.heap.size, 1, none⟩ (.slice a3 m c3) = wJ at *
    generalize w2.heap.size = J at *
    obtain ⟨M, hMM⟩ : ∃ k, L.dropLast = k := ⟨_, rfl⟩
    obtain ⟨dJ, hdJ⟩ : ∃ k, D1 = k := ⟨_, rfl⟩
    rw [hMM] at HT HM
    rw [hdJ] at HT
    have HR := hideD (show qopM d = qtlM dJ M by rw [← hdJ, ← hMM]; exact HOP.out)
    clear HOP hdJ hMM HB2 HML z1 z2 j1
    obtain ⟨a, c, hJl, c1, hr, hlc, hcm⟩ := HT.out.c1
    have hml := HT.out.l
    unfold maxLen at hcm
    rw [HM.out] at c1 hr hlc hml
    have HRT := hideD (And.intro hr hJl)
    obtain ⟨bb, hbb⟩ : ∃ b, bsQ 0 0 M = b := ⟨_, rfl⟩
    have HBB := hideD hbb
    have H0 := hideD (show bsQ 0 0 (M.drop 0) = bb from hbb)
    have HB0 := hideD (Below.refl wJ.heap.size wJ)
    clear hr hJl hbb
    go_wp2
    go_loopw [9, 80] (fun rb ix wr => ∃ (j b : Nat), j ≤ m ∧ b ≤ j ∧ ix = .int .i64 (j : Int) ∧ rb = .int .i64 (b : Int) ∧ Hid (bsQ b j (M.drop j) = bb) ∧ Hid (Below wJ.heap.size wJ wr)) (fun _ ix _ => m - (RowKit.intOf ix).toNat)
    case atStart => exact ⟨0, 0, Nat.zero_le _, Nat.le_refl _, rfl, rfl, H0, HB0⟩
    case round =>
      obtain ⟨j, b, hj, hbj, rfl, rfl, HF, HBj⟩ := hrel
      clear H0 HB0
      have c2 := (HBj.out.cell (p := ⟨J, 1, none⟩) HRT.out.2).trans c1
      clear c1
      by_cases hlt : j < m
      · have hjl : j < M.length := by rw [HM.out]; exact hlt
        obtain ⟨g, off, ra, rc, rfl, hg, -, -, -, -, c4, -, -⟩ := RdPt.at (HRT.out.1.on HBj.out) hjl
        have hfe := HF.out
        rw [List.drop_eq_getElem_cons hjl] at hfe
        unfold bsQ at hfe
        have i1 : (j : Int) < (m : Int) := by omega
        have i2 : (0 : Int) ≤ (j : Int) := by omega
        cases he : (M[j]).2.2.begun with
        | true =>
          rw [he] at c4
          rw [he, if_pos rfl] at hfe
          have HF2 := hideD hfe
          clear hfe he HF
          go_wp2
          go_roundw
          case rel => exact ⟨j + 1, j, hlt, by omega, by go_num, rfl, HF2, HBj⟩
          case measure => simp [RowKit.intOf]; omega
        | false =>
          rw [he] at c4
          rw [he, if_neg (by decide)] at hfe
          have HF2 := hideD hfe
          clear hfe he HF
          go_wp2
          go_roundw
          case rel => exact ⟨j + 1, b, hlt, by omega, by go_num, rfl, HF2, HBj⟩
          case measure => simp [RowKit.intOf]; omega
      · have hfe := HF.out
        rw [List.drop_eq_nil_of_le (by rw [HM.out]; omega)] at hfe
        have hbe : b = bb := hfe
        subst hbe
        have i1 : ¬ (j : Int) < (m : Int) := by omega
        have hd := (HT.out.on HBj.out).drop HN0.out
        obtain ⟨Rr, hRr⟩ : ∃ R, dpsM dJ (M.take (bsQ 0 0 M)) = R := ⟨_, rfl⟩
        rw [hRr, HBB.out] at hd
        clear hfe HF HBj HRT hRr HBB
        by_cases he : Rr.2 = 0
        · rw [if_pos he] at hd
          have HE := hideD he
          clear he
          go_wp2_with (first
            | (go_at_call 37; refine hd.mono ?_; rintro e w5 ⟨⟨rfl, -⟩, hrc⟩; have hrc := hrc HE.out; clear hd)
            | (go_at_call 25; refine hrc.mono ?_; rintro e w6 ⟨v, rfl, hq⟩; have HQ := hideD hq; clear hrc hq)
            | fail)
          (try simp only [Exit.inBlock, Exit.then])
          refine bodyPost_ret (results_tmp3 rfl _ _ _) rfl ?_
          rw [HR.out]
          exact HQ.out
        · rw [if_neg he] at hd
          have HE := hideD he
          clear he
          go_wp2_with (first
            | (go_at_call 37; refine hd.mono ?_; rintro e w5 ⟨⟨rfl, hq⟩, -⟩; have HQ := hideD (hq HE.out); clear hd hq)
            | fail)
          (try simp only [Exit.inBlock, Exit.then])
          refine bodyPost_ret (results_tmp3 rfl _ _ _) rfl ?_
          rw [HR.out]
          exact HQ.out
  · have HOP := hideD (hop1 he)
    have heb : (D.2 == 0) = false := by simpa using he
    have hec : (D.2 != 0) = true := by simpa using he
    obtain ⟨e2, he2⟩ : ∃ q, D.2 = q := ⟨_, rfl⟩
    rw [he2] at heb hec HDR
    clear hq g1 g2 g3 g4 hd hlast hlm hop0 hop1 ok hn0 hby hdf hk hun hbg hnn hm0 hlt0 hL hx hDD okd he hrc he2
    go_enter Try.func12, Try.ntmps12
    go_upto_region 11 with (first
      | (go_at_call 35; refine hps.mono ?_; rintro e w2 ⟨v2, rfl, ho2, b2⟩; obtain ⟨lg, lo, lc, rfl, hlc, hlm, hlg, hlw, hcs⟩ := HROW.out _ _ ho2; have hal : Below w2.heap.size w2 (w2.alloc (.cells #[.pointer (some ⟨Y, 0, none⟩), .slice (some ⟨lg, lo, none⟩) (m + 1) lc, .bool false] 53)) := (Below.refl w2.heap.size w2).alloc (Nat.le_refl _) _; obtain ⟨r0, r4, r5⟩ := hcs _ hal; have hdr := HDR.out _ (w2.alloc (.cells #[.pointer (some ⟨Y, 0, none⟩), .slice (some ⟨lg, lo, none⟩) (m + 1) lc, .bool false] 53)) _ ho2 b2 (Below.refl _ _); clear hps b2 ho2 hcs hal)
      | fail)
    go_wp2_with (first
      | (go_at_call 36; refine hdr.mono ?_; rintro e w5 ⟨rfl, hA, hcell, hB5, hG5⟩; have hS := (hcell ⟨lg, lo + m * 6, none⟩ hlg hlw).2 _ r0; have HA := hideD hA; clear hdr hA hcell hB5 hG5)
      | fail)
    (try simp only [Exit.inBlock, Exit.then])
    refine bodyPost_ret (results_tmp3 rfl _ _ _) rfl ?_
    rw [HOP.out]
    exact ⟨_, _, rfl, HA.out.1, HA.out.2, fun _ => ⟨rfl, rfl⟩, fun h => absurd (show (8 : Int) = 0 from h) (by decide)⟩
end Go.Proofs.Ytpblcahcpobicaa
