import Derived.Test.YtifgbioacknjpaaGreatDoorWsc18
import Derived.Test.YtifgbioacknjpaaGreatDoorWsc08
import Derived.Test.YtifgbioacknjpaaGreatDoorWsc10

/- Package show's writer: kind and on, by what is read. -/
namespace Go.Proofs.YtifgbioacknjpaaGreatDoor
open Go.RowKit Go.Lib
set_option linter.unusedSimpArgs false
set_option linter.unusedVariables false
attribute [local go_sem ↓] Go.wp_at_zero Go.wp_at_succ

theorem hd_let (h : HdC) : ∃ (sn : ByteArray) (sl sc : Int) (sb se : Bool) (sd su : ByteArray) (sw sr : Int), hdV h = (fun so si => [.string sn, .int .i64 sl, .int .i64 sc, .bool sb, .bool se, .string sd, .string su, .int .i64 sw, .int .i64 sr, so, si]) ∧ bl sn = h.1.1 ∧ sb = h.2.1.1 ∧ se = h.2.1.2 ∧ bl sd = h.2.2.1.1 ∧ bl su = h.2.2.1.2 ∧ sw = h.2.2.2.1.1 ∧ sr = h.2.2.2.1.2 :=
  ⟨⟨h.1.1.toArray⟩, h.1.2.1, h.1.2.2, h.2.1.1, h.2.1.2, ⟨h.2.2.1.1.toArray⟩, ⟨h.2.2.1.2.toArray⟩, h.2.2.2.1.1, h.2.2.2.1.2, rfl, bl_mk _, rfl, rfl, bl_mk _, bl_mk _, rfl, rfl⟩
theorem sz_bl (s : ByteArray) : s.size = (bl s).length := by unfold bl; rw [Array.length_toList]; rfl
theorem plain_sz {s : ByteArray} (h : plainB (bl s) = true) : s.size ≤ 1000 := by
  have := name_len (plain_name h)
  rw [sz_bl]; omega
theorem kindR_any {B b : Nat} {l : List UInt8} {w : World} (n : Nat) (h : HdC) (sn : ByteArray) (sl sc : Int) (sb se : Bool) (sd su : ByteArray) (sw sr : Int) (p1 : Option Addr) (m p3 : Nat) (p4 : Option Addr) (ni p6 : Nat) (hw : Wr B b l w) (hB : B ≤ w.heap.size) (hn : n ≤ 1000) (hf : kndF h = true) (e1 : sb = h.2.1.1) (e2 : se = h.2.1.2) (e3 : bl sd = h.2.2.1.1) (e4 : bl su = h.2.2.1.2) (e5 : sw = h.2.2.2.1.1) (e6 : sr = h.2.2.2.1.2) (hp : Pow w) :
    Calls Tryz.prog 101 #[.pointer (some ⟨b, 0, none⟩), .int .i64 (n : Int), .agg #[.string sn, .int .i64 sl, .int .i64 sc, .bool sb, .bool se, .string sd, .string su, .int .i64 sw, .int .i64 sr, .slice p1 m p3, .slice p4 ni p6]] w fun e w' => e = .returned (.tuple #[]) ∧ Wx B b ((kndW n h).foldl wpL l) w w' := by
  unfold kndW
  cases hb : h.2.1.1 with
  | true =>
    rw [hb] at e1
    subst e1
    rw [if_pos rfl]
    exact kind_all n sn sl sc se sd su sw sr p1 m p3 p4 ni p6 hw hB hn
  | false =>
    rw [hb] at e1
    subst e1
    rw [if_neg (by decide)]
    cases he : h.2.1.2 with
    | true =>
      rw [he] at e2
      subst e2
      rw [if_pos rfl]
      exact kind_end n sn sl sc sd su sw sr p1 m p3 p4 ni p6 hw hB hn
    | false =>
      rw [he] at e2
      subst e2
      rw [if_neg (by decide)]
      have et : sd.toList = bl sd := ByteArray.toList_eq _
      by_cases hd : h.2.2.1.1 = []
      · rw [if_neg (fun q => q hd)]
        exact kind_no n sn sl sc sd su sw sr p1 m p3 p4 ni p6 hw hB hn (by rw [et, e3, hd])
      · rw [if_pos hd]
        obtain ⟨_, _, h3, h4, h5, h6⟩ := kndF_step hf (step_do hd)
        have hdo : doW h = doB (bl sd) (bl su) sw sr := by rw [e3, e4, e5, e6]; rfl
        rw [hdo]
        rw [← e3] at h3
        rw [← e4] at h4
        rw [← e5] at h5
        rw [← e6] at h6
        refine kind_step n sn sl sc sd su sw sr p1 m p3 p4 ni p6 hw hB hn ?_ (plain_sz h3) (plain_sz h4) (nb_of h5) (nb_of h6) hp
        rw [et, e3]
        cases hl : h.2.2.1.1 with
        | nil => exact absurd hl hd
        | cons a r => rfl
theorem ex_text {x : Sx} (hc : ClX x) (hf : exF x = true) : (∃ u y, exX x = .iface u y) ∧ (exW x).length ≤ 4000 ∧ ∀ w, Pow w → Calls Tryz.prog 137 #[exX x] w fun e w' => e = .returned (.string ⟨(exW x).toArray⟩) ∧ Below w.heap.size w w' := by
  have h2 : fmX x = true ∧ plX x = true := by unfold exF at hf; rwa [Bool.and_eq_true] at hf
  have e : prC x.1 x.2 = (txtC x.1 x.2, 0) := if_pos h2
  refine ⟨fm_iface hc h2.1, ?_, fun w hw => textO_any (ex_ok hc hf) (by have := (fm_parts h2.1).1; unfold cntX; omega) w hw⟩
  unfold exW
  rw [e]
  exact txt_len hc h2.1 h2.2
theorem set_text {s : List UInt8 × Sx} (hf : setF s = true) (hc : ClX s.2) : SetW s := by
  unfold setF at hf
  rw [Bool.and_eq_true] at hf
  have := name_len (plain_name hf.1)
  exact ⟨by omega, ex_text hc hf.2⟩
theorem onR_any {B b : Nat} {l : List UInt8} {w : World} (n : Nat) (o : OnC) (ev tg : ByteArray) (gv : Value) (s1 : Option Addr) (ns s3 : Nat) (ol oc : Int) (h : Wr B b l w) (hB : B ≤ w.heap.size) (hn : n ≤ 1000) (hf : onF o = true) (hc : OnCl o) (e1 : bl ev = o.1) (e2 : gv = gdV o.2.1) (e3 : bl tg = o.2.2.1) (hs : RdK (fun x => x < B) w 2 (rSet (fun x => x < B) w) o.2.2.2.1 (.slice s1 ns s3)) (hns : o.2.2.2.1.length = ns) (hp : ∀ w1, Below B w w1 → Pow w1) :
    Calls Tryz.prog 102 #[.pointer (some ⟨b, 0, none⟩), .int .i64 (n : Int), .agg #[.string ev, gv, .string tg, .slice s1 ns s3, .int .i64 ol, .int .i64 oc]] w fun e w' => e = .returned (.tuple #[]) ∧ Wx B b ((onW n o).foldl wpL l) w w' := by
  obtain ⟨f1, f2, f3, f4⟩ := onF_parts hf
  have hset : ∀ s ∈ o.2.2.2.1, SetW s := fun s hs => set_text (List.all_eq_true.1 f4 s hs) (hc.2 s hs)
  have z1 : ev.size ≤ 1000 := plain_sz (by rw [e1]; exact f1)
  have z3 : tg.size ≤ 1000 := plain_sz (by rw [e3]; exact f3)
  by_cases hg : o.2.1.1 = true
  · obtain ⟨⟨u, y, t1⟩, t2, t3⟩ := ex_text (hc.1 hg) (f2 hg)
    have e4 : gv = .iface u y := by rw [e2]; unfold gdV; rw [if_pos hg, t1]
    subst e4
    obtain ⟨tx, q1, q2, q3⟩ := letter_of (exW o.2.1.2)
    have ew : onW n o = onL n (bl ev) [[32, 105, 102, 32] ++ bl tx] (bl tg) (o.2.2.2.1.map setW) := by
      unfold onW onL grdW
      rw [if_pos hg, e1, e3, q2]
    rw [ew]
    exact on_ifc n ev tg u y tx s1 ns s3 ol oc _ h hB hn z1 z3 (by omega) (fun w1 hw1 => by have := t3 w1 hw1; rw [t1, q1] at this; exact this) hs hns hset hp
  · have e4 : gv = .nilIface := by rw [e2]; unfold gdV; rw [if_neg hg]
    subst e4
    have ew : onW n o = onL n (bl ev) [] (bl tg) (o.2.2.2.1.map setW) := by
      unfold onW onL grdW
      rw [if_neg hg, e1, e3]
    rw [ew]
    exact on_nil n ev tg s1 ns s3 ol oc _ h hB hn z1 z3 hs hns hset hp
theorem onB_at {B : Nat} {w : World} {l : List OnC} {a : Option Addr} {n cap : Nat} (h : RdK (fun x => x < B) w 6 (rOn (fun x => x < B) w) l (.slice a n cap)) (j : Nat) (hj : j < l.length) : ∃ b off s1 s3, a = some ⟨b, off, none⟩ ∧ b < B ∧ RdK (fun x => x < B) w 2 (rSet (fun x => x < B) w) l[j].2.2.2.1 (.slice s1 l[j].2.2.2.1.length s3) ∧ ∀ i u, (onV l[j] (.slice s1 l[j].2.2.2.1.length s3))[i]? = some u → w.cell? ⟨b, off + j * 6 + i, none⟩ = some u := by
  obtain ⟨a1, cap1, he, h1, h2, h3⟩ := h
  simp only [Value.slice.injEq] at he
  obtain ⟨rfl, rfl, rfl⟩ := he
  obtain ⟨b, off, cs, ha, hb, _, hl, ⟨sl, rfl, hs⟩, hc⟩ := h3 j hj
  obtain ⟨s1, s3, rfl, _⟩ := hs.form
  exact ⟨b, off, s1, s3, ha, hb, hs, hc⟩
theorem stB_at {B : Nat} {w : World} {d : Nat} {l : List (St (d + 1))} {a : Option Addr} {n cap : Nat} (h : RdK (fun x => x < B) w 11 (rSt (d + 1) (fun x => x < B) w) l (.slice a n cap)) (j : Nat) (hj : j < l.length) : ∃ b off p1 p3 p4 p6, a = some ⟨b, off, none⟩ ∧ b < B ∧ RdK (fun x => x < B) w 6 (rOn (fun x => x < B) w) l[j].1.2.2.2.2 (.slice p1 l[j].1.2.2.2.2.length p3) ∧ RdK (fun x => x < B) w 11 (rSt d (fun x => x < B) w) l[j].2 (.slice p4 l[j].2.length p6) ∧ ∀ i u, (hdV l[j].1 (.slice p1 l[j].1.2.2.2.2.length p3) (.slice p4 l[j].2.length p6))[i]? = some u → w.cell? ⟨b, off + j * 11 + i, none⟩ = some u := by
  obtain ⟨a1, cap1, he, h1, h2, h3⟩ := h
  simp only [Value.slice.injEq] at he
  obtain ⟨rfl, rfl, rfl⟩ := he
  obtain ⟨b, off, cs, ha, hb, _, hl, ⟨so, si, rfl, hs, hi⟩, hc⟩ := h3 j hj
  obtain ⟨s1, s3, rfl, _⟩ := hs.form
  obtain ⟨s4, s6, rfl, _⟩ := hi.form
  exact ⟨b, off, s1, s3, s4, s6, ha, hb, hs, hi, hc⟩
theorem RdK.bel {α : Type} {B : Nat} {w w' : World} {k : Nat} {R : (Nat → Prop) → World → α → List Value → Prop} {v : Value} {l : List α} (hR : Kp R) (h : RdK (fun x => x < B) w k (R (fun x => x < B) w) l v) (hb : Below B w w') : RdK (fun x => x < B) w' k (R (fun x => x < B) w') l v := h.stay hR (fun b hl _ => ⟨hl, hb.block b hl⟩)

def WsC (d : Nat) : Prop := ∀ (B b : Nat) (l : List UInt8) (w : World) (n : Nat) (ts : List (St d)) (v : Value), Wr B b l w → B ≤ w.heap.size → n ≤ 7 → RdK (fun x => x < B) w 11 (rSt d (fun x => x < B) w) ts v → (∀ t ∈ ts, stF d n t = true ∧ StCl d t) → (∀ w1, Below B w w1 → Pow w1) →
    Calls Tryz.prog 63 #[.pointer (some ⟨b, 0, none⟩), .int .i64 (n : Int), v] w fun e w' => e = .returned (.tuple #[]) ∧ Wx B b (((ts.map (stW d n)).flatten).foldl wpL l) w w'
set_option maxRecDepth 100000 in
set_option maxHeartbeats 32000000 in
theorem wsts_in {d B b : Nat} {l : List UInt8} {w : World} (n : Nat) (ts : List (St (d + 1))) (v : Value) (h : Wr B b l w) (hB : B ≤ w.heap.size) (hn : n ≤ 7) (hs : RdK (fun x => x < B) w 11 (rSt (d + 1) (fun x => x < B) w) ts v) (hf : ∀ t ∈ ts, stF (d + 1) n t = true ∧ StCl (d + 1) t) (hp : ∀ w1, Below B w w1 → Pow w1)
    (hin : ∀ t ∈ ts, ∀ (l1 : List UInt8) (w1 : World) (v1 : Value), Wr B b l1 w1 → B ≤ w1.heap.size → RdK (fun x => x < B) w1 11 (rSt d (fun x => x < B) w1) t.2 v1 → (∀ w2, Below B w1 w2 → Pow w2) → Calls Tryz.prog 63 #[.pointer (some ⟨b, 0, none⟩), .int .i64 ((n : Int) + 1), v1] w1 fun e w' => e = .returned (.tuple #[]) ∧ Wx B b (((t.2.map (stW d (n + 1))).flatten).foldl wpL l1) w1 w') :
    Calls Tryz.prog 63 #[.pointer (some ⟨b, 0, none⟩), .int .i64 (n : Int), v] w fun e w' => e = .returned (.tuple #[]) ∧ Wx B b (((ts.map (stW (d + 1) n)).flatten).foldl wpL l) w w' := by
  obtain ⟨a, cap, rfl, hcap, hcm⟩ := hs.form
  unfold maxLen at hcm
  obtain ⟨m0, hm0⟩ : ∃ m, ts.length = m := ⟨_, rfl⟩
  rw [hm0] at hs hcap ⊢
  have HN : Hid (ts.length = m0) := hm0
  have HS := mkHid hs
  have HF := mkHid hf
  have HP := mkHid hp
  have HI := mkHid hin
  have k : Wx B b l w w := ⟨h, Below.refl _ _, Lib.OthersKept.refl _ _ _⟩
  have zl2 : (⟨#[125]⟩ : ByteArray).size ≤ 140737488340000 := by decide
  have hn1 : n ≤ 1000 := by omega
  clear h hs hf hp hin hm0
  go_enter Tryz.func63, Tryz.ntmps63
  go_wp2
  go_loopw [12] (fun ix wr => ∃ (i : Nat), i ≤ m0 ∧ ix = .int .i64 (i : Int) ∧ Wx B b ((((ts.take i).map (stW (d + 1) n)).flatten).foldl wpL l) w wr) (fun ix _ => m0 - (RowKit.intOf ix).toNat)
  case atStart => exact ⟨0, Nat.zero_le _, rfl, k⟩
  case round =>
    clear k
    obtain ⟨i, hi, rfl, k⟩ := hrel
    by_cases hlti : i < m0
    · have hil : i < ts.length := by rw [HN.out]; exact hlti
      obtain ⟨bb, off, p1, p3, p4, p6, rfl, hbb, hOn, hIn, hc⟩ := stB_at HS.out i hil
      have hmem := List.getElem_mem hil
      obtain ⟨hft, hct⟩ := HF.out _ hmem
      have hiq := HI.out _ hmem
      have htk : (((ts.take (i + 1)).map (stW (d + 1) n)).flatten).foldl wpL l = (stW (d + 1) n ts[i]).foldl wpL ((((ts.take i).map (stW (d + 1) n)).flatten).foldl wpL l) := by
        rw [List.take_succ_eq_append_getElem hil, List.map_append, List.flatten_append, List.foldl_append]
        simp
      obtain ⟨q, hq⟩ : ∃ q, ts[i] = q := ⟨_, rfl⟩
      rw [hq] at hOn hIn hc hft hct hiq htk
      obtain ⟨sn, sl, sc, sb, se, sd, su, sw, sr, hsv, h1, h2, h3, h4, h5, h6, h7⟩ := hd_let q.1
      obtain ⟨m, hm⟩ : ∃ m, q.1.2.2.2.2.length = m := ⟨_, rfl⟩
      obtain ⟨ni, hni⟩ : ∃ m, q.2.length = m := ⟨_, rfl⟩
      rw [hm] at hOn hc
      rw [hni] at hIn hc
      rw [hsv] at hc
      obtain ⟨t1, t2, t3, t4, t5⟩ := stF_parts hft
      obtain ⟨_, _, heo, hco, hmo⟩ := hOn.form
      simp only [Value.slice.injEq] at heo
      obtain ⟨rfl, hx0, rfl⟩ := heo
      clear hx0
      rw [hm] at hco
      unfold maxLen at hmo
      have zn : sn.size ≤ 1000 := plain_sz (by rw [h1]; exact t2)
      obtain ⟨x1, q1, z1, a1⟩ := add_ex ⟨#[115, 116, 97, 116, 101, 32]⟩ sn (by show 6 + _ ≤ _; omega)
      have g1 : (⟨#[115, 116, 97, 116, 101, 32]⟩ : ByteArray).size = 6 := rfl
      obtain ⟨x2, q2, z2, a2⟩ := add_ex x1 ⟨#[32, 123]⟩ (by show _ + 2 ≤ _; omega)
      have g2 : (⟨#[32, 123]⟩ : ByteArray).size = 2 := rfl
      have zl1 : x2.size ≤ 140737488340000 := by omega
      have hx2 : bl x2 = stnW q.1.1.1 := by rw [q2, q1, h1]; rfl
      obtain ⟨L0, hL0⟩ : ∃ L, (((ts.take i).map (stW (d + 1) n)).flatten).foldl wpL l = L := ⟨_, rfl⟩
      rw [hL0] at k htk
      have HTK : Hid ((((ts.take (i + 1)).map (stW (d + 1) n)).flatten).foldl wpL l = wlL (((q.2.map (stW d (n + 1))).flatten).foldl wpL ((((q.1.2.2.2.2.take m).map (onW (n + 1))).flatten).foldl wpL ((kndW (n + 1) q.1).foldl wpL (wlL L0 n (bl x2))))) n (bl ⟨#[125]⟩)) := by
        show _ = _
        rw [htk, hx2, List.take_of_length_le (by omega)]
        show (lnW n (stnW q.1.1.1) ++ (kndW (n + 1) q.1 ++ ((q.1.2.2.2.2.map (onW (n + 1))).flatten ++ ((q.2.map (stW d (n + 1))).flatten ++ lnW n [125])))).foldl wpL L0 = _
        rw [List.foldl_append, List.foldl_append, List.foldl_append, List.foldl_append]
        rfl
      have HON := mkHid hOn
      have HIN := mkHid hIn
      have HM : Hid (q.1.2.2.2.2.length = m) := hm
      have HOF : Hid (∀ o ∈ q.1.2.2.2.2, onF o = true ∧ OnCl o) := fun o ho => ⟨List.all_eq_true.1 t4 o ho, hct.1 o ho⟩
      have HIQ := mkHid hiq
      have HKD : Hid (∀ (l1 : List UInt8) (w1 : World), Wr B b l1 w1 → B ≤ w1.heap.size → Pow w1 → Calls Tryz.prog 101 #[.pointer (some ⟨b, 0, none⟩), .int .i64 ((n : Int) + 1), .agg #[.string sn, .int .i64 sl, .int .i64 sc, .bool sb, .bool se, .string sd, .string su, .int .i64 sw, .int .i64 sr, .slice p1 m p3, .slice p4 ni p6]] w1 fun e w' => e = .returned (.tuple #[]) ∧ Wx B b ((kndW (n + 1) q.1).foldl wpL l1) w1 w') := fun l1 w1 hw1 hB1 hp1 => by
        have := kindR_any (n + 1) q.1 sn sl sc sb se sd su sw sr p1 m p3 p4 ni p6 hw1 hB1 (by omega) t3 h2 h3 h4 h5 h6 h7 hp1
        rw [Int.natCast_add] at this
        exact this
      clear q1 q2 z1 z2 g1 g2 zn hx2 hL0 htk hOn hIn hiq hmem hq h1 h2 h3 h4 h5 h6 h7 hm hni hsv t1 t2 t3 t4 t5 hft hct
      have i1 : (i : Int) < (m0 : Int) := by omega
      have i2 : (0 : Int) ≤ (i : Int) := by omega
      have C0 := (k.2.1.cell (p := ⟨bb, off + i * 11 + 0, none⟩) hbb).trans (hc 0 _ rfl)
      have C1 := (k.2.1.cell (p := ⟨bb, off + i * 11 + 1, none⟩) hbb).trans (hc 1 _ rfl)
      have C2 := (k.2.1.cell (p := ⟨bb, off + i * 11 + 2, none⟩) hbb).trans (hc 2 _ rfl)
      have C3 := (k.2.1.cell (p := ⟨bb, off + i * 11 + 3, none⟩) hbb).trans (hc 3 _ rfl)
      have C4 := (k.2.1.cell (p := ⟨bb, off + i * 11 + 4, none⟩) hbb).trans (hc 4 _ rfl)
      have C5 := (k.2.1.cell (p := ⟨bb, off + i * 11 + 5, none⟩) hbb).trans (hc 5 _ rfl)
      have C6 := (k.2.1.cell (p := ⟨bb, off + i * 11 + 6, none⟩) hbb).trans (hc 6 _ rfl)
      have C7 := (k.2.1.cell (p := ⟨bb, off + i * 11 + 7, none⟩) hbb).trans (hc 7 _ rfl)
      have C8 := (k.2.1.cell (p := ⟨bb, off + i * 11 + 8, none⟩) hbb).trans (hc 8 _ rfl)
      have C9 := (k.2.1.cell (p := ⟨bb, off + i * 11 + 9, none⟩) hbb).trans (hc 9 _ rfl)
      have C10 := (k.2.1.cell (p := ⟨bb, off + i * 11 + 10, none⟩) hbb).trans (hc 10 _ rfl)
      rw [Nat.add_zero] at C0
      clear hc
      have hal : Below wr.heap.size wr (wr.alloc (.cells #[.string sn, .int .i64 sl, .int .i64 sc, .bool sb, .bool se, .string sd, .string su, .int .i64 sw, .int .i64 sr, .slice p1 m p3, .slice p4 ni p6] 49)) := (Below.refl _ _).alloc (Nat.le_refl _) _
      have hX : Bn (wr.alloc (.cells #[.string sn, .int .i64 sl, .int .i64 sc, .bool sb, .bool se, .string sd, .string su, .int .i64 sw, .int .i64 sr, .slice p1 m p3, .slice p4 ni p6] 49)) wr.heap.size [.string sn, .int .i64 sl, .int .i64 sc, .bool sb, .bool se, .string sd, .string su, .int .i64 sw, .int .i64 sr, .slice p1 m p3, .slice p4 ni p6] := Bn.new wr [.string sn, .int .i64 sl, .int .i64 sc, .bool sb, .bool se, .string sd, .string su, .int .i64 sw, .int .i64 sr, .slice p1 m p3, .slice p4 ni p6] 49 _ rfl
      have hO : (wr.alloc (.cells #[.string sn, .int .i64 sl, .int .i64 sc, .bool sb, .bool se, .string sd, .string su, .int .i64 sw, .int .i64 sr, .slice p1 m p3, .slice p4 ni p6] 49)).heap[wr.heap.size]? = some (.cells #[.string sn, .int .i64 sl, .int .i64 sc, .bool sb, .bool se, .string sd, .string su, .int .i64 sw, .int .i64 sr, .slice p1 m p3, .slice p4 ni p6] 49 (0, 0)) := blk_new _ _
      have hbS : b ≠ wr.heap.size := Nat.ne_of_lt k.1.lt
      have hBx : B ≤ (wr.alloc (.cells #[.string sn, .int .i64 sl, .int .i64 sc, .bool sb, .bool se, .string sd, .string su, .int .i64 sw, .int .i64 sr, .slice p1 m p3, .slice p4 ni p6] 49)).heap.size := Nat.le_trans hB (Nat.le_trans k.2.1.size hal.size)
      have hk0 : Wx B b L0 w (wr.alloc (.cells #[.string sn, .int .i64 sl, .int .i64 sc, .bool sb, .bool se, .string sd, .string su, .int .i64 sw, .int .i64 sr, .slice p1 m p3, .slice p4 ni p6] 49)) := k.on hB hal
      have HKW : Hid (Wx B b L0 w (wr.alloc (.cells #[.string sn, .int .i64 sl, .int .i64 sc, .bool sb, .bool se, .string sd, .string su, .int .i64 sw, .int .i64 sr, .slice p1 m p3, .slice p4 ni p6] 49))) := hk0
      have k : Wx B b L0 (wr.alloc (.cells #[.string sn, .int .i64 sl, .int .i64 sc, .bool sb, .bool se, .string sd, .string su, .int .i64 sw, .int .i64 sr, .slice p1 m p3, .slice p4 ni p6] 49)) (wr.alloc (.cells #[.string sn, .int .i64 sl, .int .i64 sc, .bool sb, .bool se, .string sd, .string su, .int .i64 sw, .int .i64 sr, .slice p1 m p3, .slice p4 ni p6] 49)) := ⟨hk0.1, Below.refl _ _, Lib.OthersKept.refl _ _ _⟩
      clear hk0
      go_upto_region 3 with fail
      clear C0 C1 C2 C3 C4 C5 C6 C7 C8 C9 C10
      generalize (wr.alloc (.cells #[.string sn, .int .i64 sl, .int .i64 sc, .bool sb, .bool se, .string sd, .string su, .int .i64 sw, .int .i64 sr, .slice p1 m p3, .slice p4 ni p6] 49)) = wx at *
      obtain ⟨c0, _⟩ := hX 0 _ rfl
      obtain ⟨c1, _⟩ := hX 1 _ rfl
      obtain ⟨c2, _⟩ := hX 2 _ rfl
      obtain ⟨c3, _⟩ := hX 3 _ rfl
      obtain ⟨c4, _⟩ := hX 4 _ rfl
      obtain ⟨c5, _⟩ := hX 5 _ rfl
      obtain ⟨c6, _⟩ := hX 6 _ rfl
      obtain ⟨c7, _⟩ := hX 7 _ rfl
      obtain ⟨c8, _⟩ := hX 8 _ rfl
      obtain ⟨c9, _⟩ := hX 9 _ rfl
      obtain ⟨c10, _⟩ := hX 10 _ rfl
      clear hX hal
      obtain ⟨S, hS⟩ : ∃ S, wr.heap.size = S := ⟨_, rfl⟩
      rw [hS] at c0 c1 c2 c3 c4 c5 c6 c7 c8 c9 c10 hO hbS ⊢
      clear hS
      have HPX : Hid (∀ w1, Below B wx w1 → Pow w1) := fun w1 bb => HP.out w1 (HKW.out.2.1.trans bb)
      have hline := fun t l' w1 k ht => lineX (B := B) (b := b) (w := wx) hBx n t l' w1 k hn1 ht
      have hkind : ∀ (l1 : List UInt8) (w1 : World), Wx B b l1 wx w1 → Calls Tryz.prog 101 #[.pointer (some ⟨b, 0, none⟩), .int .i64 ((n : Int) + 1), .agg #[.string sn, .int .i64 sl, .int .i64 sc, .bool sb, .bool se, .string sd, .string su, .int .i64 sw, .int .i64 sr, .slice p1 m p3, .slice p4 ni p6]] w1 fun e w' => e = .returned (.tuple #[]) ∧ Wx B b ((kndW (n + 1) q.1).foldl wpL l1) wx w' := fun l1 w1 k1 => (HKD.out l1 w1 k1.1 (Nat.le_trans hBx k1.2.1.size) (HPX.out w1 k1.2.1)).mono (fun e w' hh => ⟨hh.1, k1.trans hh.2⟩)
      have hinn : ∀ (l1 : List UInt8) (w1 : World), Wx B b l1 wx w1 → Calls Tryz.prog 63 #[.pointer (some ⟨b, 0, none⟩), .int .i64 ((n : Int) + 1), .slice p4 ni p6] w1 fun e w' => e = .returned (.tuple #[]) ∧ Wx B b (((q.2.map (stW d (n + 1))).flatten).foldl wpL l1) wx w' := fun l1 w1 k1 => (HIQ.out l1 w1 _ k1.1 (Nat.le_trans hBx k1.2.1.size) (HIN.out.bel (kp_st d) (HKW.out.2.1.trans k1.2.1)) (fun w2 b2 => HPX.out w2 (k1.2.1.trans b2))).mono (fun e w' hh => ⟨hh.1, k1.trans hh.2⟩)
      go_wp2_with (first
        | (go_at_call 62; refine (hline _ _ _ k (by assumption)).mono ?_; clear k; rintro e w2 ⟨rfl, k⟩; have y0 := keep_cell (p := ⟨S, 0, none⟩) (keepX k.2.2 hO hbS (by decide)) c0; have y1 := keep_cell (p := ⟨S, 1, none⟩) (keepX k.2.2 hO hbS (by decide)) c1; have y2 := keep_cell (p := ⟨S, 2, none⟩) (keepX k.2.2 hO hbS (by decide)) c2; have y3 := keep_cell (p := ⟨S, 3, none⟩) (keepX k.2.2 hO hbS (by decide)) c3; have y4 := keep_cell (p := ⟨S, 4, none⟩) (keepX k.2.2 hO hbS (by decide)) c4; have y5 := keep_cell (p := ⟨S, 5, none⟩) (keepX k.2.2 hO hbS (by decide)) c5; have y6 := keep_cell (p := ⟨S, 6, none⟩) (keepX k.2.2 hO hbS (by decide)) c6; have y7 := keep_cell (p := ⟨S, 7, none⟩) (keepX k.2.2 hO hbS (by decide)) c7; have y8 := keep_cell (p := ⟨S, 8, none⟩) (keepX k.2.2 hO hbS (by decide)) c8; have y9 := keep_cell (p := ⟨S, 9, none⟩) (keepX k.2.2 hO hbS (by decide)) c9; have y10 := keep_cell (p := ⟨S, 10, none⟩) (keepX k.2.2 hO hbS (by decide)) c10)
        | (go_at_call 101; refine (hkind _ _ k).mono ?_; clear k; rintro e w2 ⟨rfl, k⟩; have y0 := keep_cell (p := ⟨S, 0, none⟩) (keepX k.2.2 hO hbS (by decide)) c0; have y1 := keep_cell (p := ⟨S, 1, none⟩) (keepX k.2.2 hO hbS (by decide)) c1; have y2 := keep_cell (p := ⟨S, 2, none⟩) (keepX k.2.2 hO hbS (by decide)) c2; have y3 := keep_cell (p := ⟨S, 3, none⟩) (keepX k.2.2 hO hbS (by decide)) c3; have y4 := keep_cell (p := ⟨S, 4, none⟩) (keepX k.2.2 hO hbS (by decide)) c4; have y5 := keep_cell (p := ⟨S, 5, none⟩) (keepX k.2.2 hO hbS (by decide)) c5; have y6 := keep_cell (p := ⟨S, 6, none⟩) (keepX k.2.2 hO hbS (by decide)) c6; have y7 := keep_cell (p := ⟨S, 7, none⟩) (keepX k.2.2 hO hbS (by decide)) c7; have y8 := keep_cell (p := ⟨S, 8, none⟩) (keepX k.2.2 hO hbS (by decide)) c8; have y9 := keep_cell (p := ⟨S, 9, none⟩) (keepX k.2.2 hO hbS (by decide)) c9; have y10 := keep_cell (p := ⟨S, 10, none⟩) (keepX k.2.2 hO hbS (by decide)) c10)
        | fail)
      obtain ⟨L1, hL1⟩ : ∃ L, (kndW (n + 1) q.1).foldl wpL (wlL L0 n (bl x2)) = L := ⟨_, rfl⟩
      rw [hL1] at k
      have HTK1 := HTK.out
      rw [hL1] at HTK1
      have HTK2 := mkHid HTK1
      clear hL1 HTK1 HTK HKD
      go_loopw [31] (fun ix wr2 => ∃ (i2 : Nat), i2 ≤ m ∧ ix = .int .i64 (i2 : Int) ∧ Wx B b ((((q.1.2.2.2.2.take i2).map (onW (n + 1))).flatten).foldl wpL L1) wx wr2) (fun ix _ => m - (RowKit.intOf ix).toNat)
      case atStart => exact ⟨0, Nat.zero_le _, rfl, k⟩
      case round =>
        clear k
        obtain ⟨i2, hi2, rfl, k⟩ := hrel
        by_cases hlt2 : i2 < m
        · have hil2 : i2 < q.1.2.2.2.2.length := by rw [HM.out]; exact hlt2
          obtain ⟨b2, off2, s1, s3, rfl, hbb2, hsr, hc2⟩ := onB_at HON.out i2 hil2
          obtain ⟨hfo, hco⟩ := HOF.out _ (List.getElem_mem hil2)
          have htk2 : (((q.1.2.2.2.2.take (i2 + 1)).map (onW (n + 1))).flatten).foldl wpL L1 = (onW (n + 1) q.1.2.2.2.2[i2]).foldl wpL ((((q.1.2.2.2.2.take i2).map (onW (n + 1))).flatten).foldl wpL L1) := by
            rw [List.take_succ_eq_append_getElem hil2, List.map_append, List.flatten_append, List.foldl_append]
            simp
          obtain ⟨o, ho⟩ : ∃ o, q.1.2.2.2.2[i2] = o := ⟨_, rfl⟩
          rw [ho] at hsr hc2 hfo hco htk2
          obtain ⟨ns, hns⟩ : ∃ m, o.2.2.2.1.length = m := ⟨_, rfl⟩
          have HNS : Hid (o.2.2.2.1.length = ns) := hns
          rw [hns] at hsr hc2
          obtain ⟨ev, eq1, eo1, _⟩ := letter_of o.1
          obtain ⟨tg, eq2, eo2, _⟩ := letter_of o.2.2.1
          obtain ⟨ol, hol⟩ : ∃ x, o.2.2.2.2.1 = x := ⟨_, rfl⟩
          obtain ⟨oc, hoc⟩ : ∃ x, o.2.2.2.2.2 = x := ⟨_, rfl⟩
          have hgf := gdV_form o.2.1
          obtain ⟨gv, ego⟩ : ∃ x, x = gdV o.2.1 := ⟨_, rfl⟩
          have hov : onV o (.slice s1 ns s3) = [.string ev, gv, .string tg, .slice s1 ns s3, .int .i64 ol, .int .i64 oc] := by unfold onV sV; rw [eq1, eq2, hol, hoc, ego]
          rw [hov] at hc2
          rw [← ego] at hgf
          obtain ⟨L2, hL2⟩ : ∃ L, (((q.1.2.2.2.2.take i2).map (onW (n + 1))).flatten).foldl wpL L1 = L := ⟨_, rfl⟩
          rw [hL2] at k htk2
          have HT2 := mkHid htk2
          clear htk2 hL2 ho hns eq1 eq2 hol hoc hov
          have j1 : (i2 : Int) < (m : Int) := by omega
          have j2 : (0 : Int) ≤ (i2 : Int) := by omega
          have C0 := ((HKW.out.2.1.trans k.2.1).cell (p := ⟨b2, off2 + i2 * 6 + 0, none⟩) hbb2).trans (hc2 0 _ rfl)
          have C1 := ((HKW.out.2.1.trans k.2.1).cell (p := ⟨b2, off2 + i2 * 6 + 1, none⟩) hbb2).trans (hc2 1 _ rfl)
          have C2 := ((HKW.out.2.1.trans k.2.1).cell (p := ⟨b2, off2 + i2 * 6 + 2, none⟩) hbb2).trans (hc2 2 _ rfl)
          have C3 := ((HKW.out.2.1.trans k.2.1).cell (p := ⟨b2, off2 + i2 * 6 + 3, none⟩) hbb2).trans (hc2 3 _ rfl)
          have C4 := ((HKW.out.2.1.trans k.2.1).cell (p := ⟨b2, off2 + i2 * 6 + 4, none⟩) hbb2).trans (hc2 4 _ rfl)
          have C5 := ((HKW.out.2.1.trans k.2.1).cell (p := ⟨b2, off2 + i2 * 6 + 5, none⟩) hbb2).trans (hc2 5 _ rfl)
          rw [Nat.add_zero] at C0
          clear hc2 hkind hinn hline
          rcases hgf with rfl | ⟨gu, gy, rfl⟩
          · skip
            have hal : Below wr.heap.size wr (wr.alloc (.cells #[.string ev, .nilIface, .string tg, .slice s1 ns s3, .int .i64 ol, .int .i64 oc] 115)) := (Below.refl _ _).alloc (Nat.le_refl _) _
            have hX : Bn (wr.alloc (.cells #[.string ev, .nilIface, .string tg, .slice s1 ns s3, .int .i64 ol, .int .i64 oc] 115)) wr.heap.size [.string ev, .nilIface, .string tg, .slice s1 ns s3, .int .i64 ol, .int .i64 oc] := Bn.new wr [.string ev, .nilIface, .string tg, .slice s1 ns s3, .int .i64 ol, .int .i64 oc] 115 _ rfl
            have kx := k.on hBx hal
            have hon : Calls Tryz.prog 102 #[.pointer (some ⟨b, 0, none⟩), .int .i64 ((n : Int) + 1), .agg #[.string ev, .nilIface, .string tg, .slice s1 ns s3, .int .i64 ol, .int .i64 oc]] (wr.alloc (.cells #[.string ev, .nilIface, .string tg, .slice s1 ns s3, .int .i64 ol, .int .i64 oc] 115)) fun e w' => e = .returned (.tuple #[]) ∧ Wx B b ((onW (n + 1) o).foldl wpL L2) wx w' := by
              have := onR_any (n + 1) o ev tg _ s1 ns s3 ol oc kx.1 (Nat.le_trans hBx kx.2.1.size) (by omega) hfo hco eo1 ego eo2 (hsr.bel kp_set (HKW.out.2.1.trans kx.2.1)) HNS.out (fun w2 b2 => HPX.out w2 (kx.2.1.trans b2))
              rw [Int.natCast_add] at this
              exact this.mono (fun e w' hh => ⟨hh.1, kx.trans hh.2⟩)
            clear eo1 eo2 ego hsr hfo hco k kx
            go_upto_region 8 with fail
            clear C0 C1 C2 C3 C4 C5
            generalize (wr.alloc (.cells #[.string ev, .nilIface, .string tg, .slice s1 ns s3, .int .i64 ol, .int .i64 oc] 115)) = wy at *
            obtain ⟨x0, _⟩ := hX 0 _ rfl
            obtain ⟨x1', _⟩ := hX 1 _ rfl
            obtain ⟨x2', _⟩ := hX 2 _ rfl
            obtain ⟨x3', _⟩ := hX 3 _ rfl
            obtain ⟨x4', _⟩ := hX 4 _ rfl
            obtain ⟨x5', _⟩ := hX 5 _ rfl
            go_wp2_with (first
              | (go_at_call 102; refine hon.mono ?_; rintro e w3 ⟨rfl, k⟩)
              | fail)
            rw [← HT2.out] at k
            go_wp2
            go_roundw
            case rel => exact ⟨i2 + 1, hlt2, by go_num, k⟩
            case measure => simp [RowKit.intOf]; omega
          · skip
            have hal : Below wr.heap.size wr (wr.alloc (.cells #[.string ev, .iface gu gy, .string tg, .slice s1 ns s3, .int .i64 ol, .int .i64 oc] 115)) := (Below.refl _ _).alloc (Nat.le_refl _) _
            have hX : Bn (wr.alloc (.cells #[.string ev, .iface gu gy, .string tg, .slice s1 ns s3, .int .i64 ol, .int .i64 oc] 115)) wr.heap.size [.string ev, .iface gu gy, .string tg, .slice s1 ns s3, .int .i64 ol, .int .i64 oc] := Bn.new wr [.string ev, .iface gu gy, .string tg, .slice s1 ns s3, .int .i64 ol, .int .i64 oc] 115 _ rfl
            have kx := k.on hBx hal
            have hon : Calls Tryz.prog 102 #[.pointer (some ⟨b, 0, none⟩), .int .i64 ((n : Int) + 1), .agg #[.string ev, .iface gu gy, .string tg, .slice s1 ns s3, .int .i64 ol, .int .i64 oc]] (wr.alloc (.cells #[.string ev, .iface gu gy, .string tg, .slice s1 ns s3, .int .i64 ol, .int .i64 oc] 115)) fun e w' => e = .returned (.tuple #[]) ∧ Wx B b ((onW (n + 1) o).foldl wpL L2) wx w' := by
              have := onR_any (n + 1) o ev tg _ s1 ns s3 ol oc kx.1 (Nat.le_trans hBx kx.2.1.size) (by omega) hfo hco eo1 ego eo2 (hsr.bel kp_set (HKW.out.2.1.trans kx.2.1)) HNS.out (fun w2 b2 => HPX.out w2 (kx.2.1.trans b2))
              rw [Int.natCast_add] at this
              exact this.mono (fun e w' hh => ⟨hh.1, kx.trans hh.2⟩)
            clear eo1 eo2 ego hsr hfo hco k kx
            go_upto_region 8 with fail
            clear C0 C1 C2 C3 C4 C5
            generalize (wr.alloc (.cells #[.string ev, .iface gu gy, .string tg, .slice s1 ns s3, .int .i64 ol, .int .i64 oc] 115)) = wy at *
            obtain ⟨x0, _⟩ := hX 0 _ rfl
            obtain ⟨x1', _⟩ := hX 1 _ rfl
            obtain ⟨x2', _⟩ := hX 2 _ rfl
            obtain ⟨x3', _⟩ := hX 3 _ rfl
            obtain ⟨x4', _⟩ := hX 4 _ rfl
            obtain ⟨x5', _⟩ := hX 5 _ rfl
            go_wp2_with (first
              | (go_at_call 102; refine hon.mono ?_; rintro e w3 ⟨rfl, k⟩)
              | fail)
            rw [← HT2.out] at k
            go_wp2
            go_roundw
            case rel => exact ⟨i2 + 1, hlt2, by go_num, k⟩
            case measure => simp [RowKit.intOf]; omega
        · have j1 : ¬ (i2 : Int) < (m : Int) := by omega
          obtain rfl : i2 = m := by omega
          have y10 := keep_cell (p := ⟨S, 10, none⟩) (keepX k.2.2 hO hbS (by decide)) c10
          go_wp2_with (first
            | (go_at_call 63; refine (hinn _ _ k).mono ?_; clear k; rintro e w2 ⟨rfl, k⟩)
            | (go_at_call 62; refine (hline _ _ _ k (by assumption)).mono ?_; clear k; rintro e w2 ⟨rfl, k⟩)
            | fail)
          rw [← HTK2.out] at k
          go_roundw
          case rel => exact ⟨i + 1, hlti, by go_num, HKW.out.trans k⟩
          case measure => simp [RowKit.intOf]; omega
    · have i1 : ¬ (i : Int) < (m0 : Int) := by omega
      have hie : ts.take i = ts := List.take_of_length_le (by rw [HN.out]; omega)
      rw [hie] at k
      go_wp2
      go_end0
      exact ⟨rfl, k⟩
theorem wsts_zero : WsC 0 := by
  intro B b l w n ts v h hB hn hs hf hp
  have hl : ts = [] := by
    cases ts with
    | nil => rfl
    | cons t r => exact Empty.elim t
  subst hl
  exact wsts_in (d := 0) n [] v h hB hn (by
    obtain ⟨a, cap, e, h1, h2, h3⟩ := hs
    exact ⟨a, cap, e, h1, h2, fun i hi => absurd hi (Nat.not_lt_zero i)⟩) (fun t ht => by simp at ht) hp (fun t ht => by simp at ht)
theorem wsts_step {d : Nat} (IH : WsC d) : WsC (d + 1) := by
  intro B b l w n ts v h hB hn hs hf hp
  refine wsts_in n ts v h hB hn hs hf hp (fun t ht l1 w1 v1 hw1 hB1 hr hp1 => ?_)
  obtain ⟨t1, t2, t3, t4, t5⟩ := stF_parts (hf t ht).1
  have := IH B b l1 w1 (n + 1) t.2 v1 hw1 hB1 (by omega) hr (fun x hx => ⟨List.all_eq_true.1 t5 x hx, (hf t ht).2.2 x hx⟩) hp1
  rw [Int.natCast_add] at this
  exact this
theorem wsts_any : ∀ d, WsC d
  | 0 => wsts_zero
  | d + 1 => wsts_step (wsts_any d)

theorem varB_at {B : Nat} {w : World} {l : List (List UInt8 × Int × Pl)} {a : Option Addr} {n cap : Nat} (h : RdK (fun x => x < B) w 4 (rVar (fun x => x < B) w) l (.slice a n cap)) (j : Nat) (hj : j < l.length) : ∃ b off, a = some ⟨b, off, none⟩ ∧ b < B ∧ ∀ i u, (varV l[j])[i]? = some u → w.cell? ⟨b, off + j * 4 + i, none⟩ = some u := by
  obtain ⟨a1, cap1, he, h1, h2, h3⟩ := h
  simp only [Value.slice.injEq] at he
  obtain ⟨rfl, rfl, rfl⟩ := he
  obtain ⟨b, off, cs, ha, hb, _, hl, hr, hc⟩ := h3 j hj
  have hr : cs = varV l[j] := hr
  subst hr
  exact ⟨b, off, ha, hb, hc⟩
theorem znW_len {n : Int} (h : -1000000000 ≤ n ∧ n ≤ 1000000000) : (znW n).length ≤ 11 := by
  unfold znW
  split
  · have := dc_len (n := -n) (by omega)
    simp only [List.length_cons]; omega
  · have := dc_len (n := n) (by omega)
    omega
set_option maxRecDepth 100000 in
set_option maxHeartbeats 32000000 in
theorem wchart_walk {d B b : Nat} {l : List UInt8} {w : World} (c : ChG d) (s0 : ByteArray) (vn pl pc : Int) (p1 : Option Addr) (nv p3 : Nat) (p4 : Option Addr) (ni p6 : Nat) (h : Wr B b l w) (hBw : B ≤ w.heap.size) (es : bl s0 = c.1.1) (ev : vn = c.2.1) (hv : RdK (fun x => x < B) w 4 (rVar (fun x => x < B) w) c.2.2.1 (.slice p1 nv p3)) (hnv : c.2.2.1.length = nv) (hs : RdK (fun x => x < B) w 11 (rSt d (fun x => x < B) w) c.2.2.2 (.slice p4 ni p6)) (hf : chF d c = true) (hc : ∀ t ∈ c.2.2.2, StCl d t) (hp : ∀ w1, Below B w w1 → Pow w1) :
    Calls Tryz.prog 34 #[.pointer (some ⟨b, 0, none⟩), .agg #[.string s0, .int .i64 vn, .int .i64 pl, .int .i64 pc, .slice p1 nv p3, .slice p4 ni p6]] w fun e w' => e = .returned (.tuple #[]) ∧ Wx B b ((chW d c).foldl wpL l) w w' := by
  obtain ⟨f1, f2, f3, f4⟩ := chF_parts hf
  have hal : Below w.heap.size w (w.alloc (.cells #[.string s0, .int .i64 vn, .int .i64 pl, .int .i64 pc, .slice p1 nv p3, .slice p4 ni p6] 33)) := (Below.refl w.heap.size w).alloc (Nat.le_refl _) _
  have hX : Bn (w.alloc (.cells #[.string s0, .int .i64 vn, .int .i64 pl, .int .i64 pc, .slice p1 nv p3, .slice p4 ni p6] 33)) w.heap.size [.string s0, .int .i64 vn, .int .i64 pl, .int .i64 pc, .slice p1 nv p3, .slice p4 ni p6] := Bn.new w [.string s0, .int .i64 vn, .int .i64 pl, .int .i64 pc, .slice p1 nv p3, .slice p4 ni p6] 33 _ rfl
  have hO : (w.alloc (.cells #[.string s0, .int .i64 vn, .int .i64 pl, .int .i64 pc, .slice p1 nv p3, .slice p4 ni p6] 33)).heap[w.heap.size]? = some (.cells #[.string s0, .int .i64 vn, .int .i64 pl, .int .i64 pc, .slice p1 nv p3, .slice p4 ni p6] 33 (0, 0)) := blk_new _ _
  have hBx : B ≤ (w.alloc (.cells #[.string s0, .int .i64 vn, .int .i64 pl, .int .i64 pc, .slice p1 nv p3, .slice p4 ni p6] 33)).heap.size := Nat.le_trans hBw hal.size
  have hk0 : Wx B b l w (w.alloc (.cells #[.string s0, .int .i64 vn, .int .i64 pl, .int .i64 pc, .slice p1 nv p3, .slice p4 ni p6] 33)) := ⟨Wr.below h hal, hal.mono hBw, others_below hal⟩
  have HKW : Hid (Wx B b l w (w.alloc (.cells #[.string s0, .int .i64 vn, .int .i64 pl, .int .i64 pc, .slice p1 nv p3, .slice p4 ni p6] 33))) := hk0
  have k : Wx B b l (w.alloc (.cells #[.string s0, .int .i64 vn, .int .i64 pl, .int .i64 pc, .slice p1 nv p3, .slice p4 ni p6] 33)) (w.alloc (.cells #[.string s0, .int .i64 vn, .int .i64 pl, .int .i64 pc, .slice p1 nv p3, .slice p4 ni p6] 33)) := ⟨hk0.1, Below.refl _ _, Lib.OthersKept.refl _ _ _⟩
  have hbS : b ≠ w.heap.size := Nat.ne_of_lt h.lt
  have hnb : 0 ≤ vn ∧ vn ≤ 1000000000 := nb_of (by rw [ev]; exact f2)
  have zs : s0.size ≤ 1000 := plain_sz (by rw [es]; exact f1)
  obtain ⟨t1, ht1, e1, z1⟩ := letter_of (dcN vn)
  have zz1 := dc_len hnb
  obtain ⟨x1, q1, s1, a1⟩ := add_ex ⟨#[99, 104, 97, 114, 116, 32]⟩ s0 (by show 6 + _ ≤ _; omega)
  have g1 : (⟨#[99, 104, 97, 114, 116, 32]⟩ : ByteArray).size = 6 := rfl
  obtain ⟨x2, q2, s2, a2⟩ := add_ex x1 ⟨#[32]⟩ (by show _ + 1 ≤ _; omega)
  have g2 : (⟨#[32]⟩ : ByteArray).size = 1 := rfl
  obtain ⟨x3, q3, s3, a3⟩ := add_ex x2 t1 (by omega)
  obtain ⟨x4, q4, s4, a4⟩ := add_ex x3 ⟨#[32, 123]⟩ (by show _ + 2 ≤ _; omega)
  have g4 : (⟨#[32, 123]⟩ : ByteArray).size = 2 := rfl
  have ql : bl x4 = chnW c.1.1 c.2.1 := by rw [q4, q3, q2, q1, e1, es, ev]; rfl
  have zl : x4.size ≤ 140737488340000 := by omega
  have zl2 : (⟨#[125]⟩ : ByteArray).size ≤ 140737488340000 := by decide
  obtain ⟨_, _, heo, hco, hmo⟩ := hv.form
  simp only [Value.slice.injEq] at heo
  obtain ⟨rfl, hx0, rfl⟩ := heo
  clear hx0
  rw [hnv] at hco
  unfold maxLen at hmo
  have HFIN : Hid ((chW d c).foldl wpL l = wlL (((c.2.2.2.map (stW d 1)).flatten).foldl wpL ((((c.2.2.1.take nv).map varW).flatten).foldl wpL (wlL l 0 (bl x4)))) 0 (bl ⟨#[125]⟩)) := by
    show _ = _
    rw [ql, List.take_of_length_le (by omega)]
    show (lnW 0 (chnW c.1.1 c.2.1) ++ ((c.2.2.1.map varW).flatten ++ ((c.2.2.2.map (stW d 1)).flatten ++ lnW 0 [125]))).foldl wpL l = _
    rw [List.foldl_append, List.foldl_append, List.foldl_append]
    rfl
  have HV := mkHid hv
  have HVF : Hid (∀ v ∈ c.2.2.1, varF v = true) := fun v hv => List.all_eq_true.1 f3 v hv
  have HNV : Hid (c.2.2.1.length = nv) := hnv
  have HST : Hid (∀ (l1 : List UInt8) (w1 : World), Wx B b l1 w w1 → Calls Tryz.prog 63 #[.pointer (some ⟨b, 0, none⟩), .int .i64 1, .slice p4 ni p6] w1 fun e w' => e = .returned (.tuple #[]) ∧ Wx B b (((c.2.2.2.map (stW d 1)).flatten).foldl wpL l1) w1 w') := fun l1 w1 k1 => wsts_any d B b l1 w1 1 c.2.2.2 _ k1.1 (Nat.le_trans hBw k1.2.1.size) (by omega) (hs.bel (kp_st d) k1.2.1) (fun t ht => ⟨List.all_eq_true.1 f4 t ht, hc t ht⟩) (fun w2 b2 => hp w2 (k1.2.1.trans b2))
  have HP := mkHid hp
  clear q1 q2 q3 q4 s1 s2 s3 s4 g1 g2 g4 e1 z1 zz1 zs es ev f1 f2 f3 f4 h hk0 hs hv hf hc hp hnv ql
  go_enter Tryz.func34, Tryz.ntmps34
  go_upto_region 1 with fail
  generalize (w.alloc (.cells #[.string s0, .int .i64 vn, .int .i64 pl, .int .i64 pc, .slice p1 nv p3, .slice p4 ni p6] 33)) = wx at *
  obtain ⟨c0, _⟩ := hX 0 _ rfl
  obtain ⟨c1, _⟩ := hX 1 _ rfl
  obtain ⟨c4, _⟩ := hX 4 _ rfl
  obtain ⟨c5, _⟩ := hX 5 _ rfl
  have hlt := hX.lt
  clear hX hal
  obtain ⟨S, hS⟩ : ∃ S, w.heap.size = S := ⟨_, rfl⟩
  rw [hS] at c0 c1 c4 c5 hlt hO hbS ⊢
  clear hS hBw
  have i1 : ∀ w1, Below wx.heap.size wx w1 → Calls Tryz.prog 37 #[.int .i64 vn] w1 fun e w' => e = .returned (.string t1) ∧ Below w1.heap.size w1 w' := fun w1 bb => by
    rw [← ht1]; exact itoa_any hnb.1 hnb.2 w1 (HP.out w1 (HKW.out.2.1.trans (bb.mono hBx)))
  have hl : ∀ w1, Below wx.heap.size wx w1 → Calls Tryz.prog 62 #[.pointer (some ⟨b, 0, none⟩), .int .i64 0, .string x4] w1 fun e w' => e = .returned (.tuple #[]) ∧ Wx B b (wlL l 0 (bl x4)) wx w' ∧ w'.heap[S]? = wx.heap[S]? := fun w1 bb => by
    have hk := k.on hBx bb
    refine (line_any 0 x4 hk.1 (by omega) zl (Nat.le_trans hBx hk.2.1.size)).mono ?_
    rintro e w' ⟨he, hw⟩
    have h3 := bb.block S hlt
    exact ⟨he, hk.trans hw, (keepX hw.2.2 (h3.trans hO) hbS (by decide)).trans h3⟩
  clear k
  have hB : Below wx.heap.size wx wx := Below.refl _ _
  have y0 := c0
  have y1 := c1
  go_region_held_law (fun w' => w'.cell? ⟨S, 0, none⟩ = some (.string s0) ∧ w'.cell? ⟨S, 1, none⟩ = some (.int .i64 vn))
    ((refine ⟨?_, ?_⟩ <;> (repeat (first | (with_reducible exact y0) | (with_reducible exact y1) | (with_reducible refine cell_dr ?_))) <;> done))
    (first
      | (go_at_call 37; (first | (with_reducible refine (i1 _ hB).mono ?_) | (with_reducible refine (i1 _ hB.drew).mono ?_)); rintro e w1 ⟨rfl, b1⟩; (first | have hB := Below.nxd hB b1 | have hB := Below.nx hB b1); have y0 := (hB.cell (p := ⟨S, 0, none⟩) hlt).trans c0; have y1 := (hB.cell (p := ⟨S, 1, none⟩) hlt).trans c1)
      | (go_at_call 62; (first | (with_reducible refine (hl _ hB).mono ?_) | (with_reducible refine (hl _ hB.drew).mono ?_)); rintro e w1 ⟨rfl, k, kb⟩; have y0 := keep_cell (p := ⟨S, 0, none⟩) kb c0; have y1 := keep_cell (p := ⟨S, 1, none⟩) kb c1; have y4 := keep_cell (p := ⟨S, 4, none⟩) kb c4)
      | fail)
  all_goals (
    clear y0 y1 i1 hl hB kb
    go_wp2
    obtain ⟨L1, hL1⟩ : ∃ L, wlL l 0 (bl x4) = L := ⟨_, rfl⟩
    rw [hL1] at k
    have HF1 := HFIN.out
    rw [hL1] at HF1
    have HF2 := mkHid HF1
    clear hL1 HF1
    go_loopw [20] (fun ix wr => ∃ (i : Nat), i ≤ nv ∧ ix = .int .i64 (i : Int) ∧ Wx B b ((((c.2.2.1.take i).map varW).flatten).foldl wpL L1) wx wr) (fun ix _ => nv - (RowKit.intOf ix).toNat)
    case atStart => exact ⟨0, Nat.zero_le _, rfl, k⟩
    case round =>
      clear k
      obtain ⟨i, hi, rfl, k⟩ := hrel
      by_cases hlti : i < nv
      · have hil : i < c.2.2.1.length := by rw [HNV.out]; exact hlti
        obtain ⟨bb, off, rfl, hbb, hc⟩ := varB_at HV.out i hil
        have hvf := HVF.out _ (List.getElem_mem hil)
        have htk : (((c.2.2.1.take (i + 1)).map varW).flatten).foldl wpL L1 = (varW c.2.2.1[i]).foldl wpL ((((c.2.2.1.take i).map varW).flatten).foldl wpL L1) := by
          rw [List.take_succ_eq_append_getElem hil, List.map_append, List.flatten_append, List.foldl_append]
          simp
        obtain ⟨q, hq⟩ : ∃ q, c.2.2.1[i] = q := ⟨_, rfl⟩
        rw [hq] at hc hvf htk
        unfold varF at hvf
        simp only [Bool.and_eq_true, decide_eq_true_eq] at hvf
        obtain ⟨hv1, hv2⟩ := hvf
        obtain ⟨s2, es2, eb2, ez2⟩ := letter_of q.1
        obtain ⟨x, hx⟩ : ∃ x, q.2.1 = x := ⟨_, rfl⟩
        obtain ⟨vl, hvl⟩ : ∃ x, q.2.2.1 = x := ⟨_, rfl⟩
        obtain ⟨vc, hvc⟩ : ∃ x, q.2.2.2 = x := ⟨_, rfl⟩
        have hov : varV q = [.string s2, .int .i64 x, .int .i64 vl, .int .i64 vc] := by unfold varV sV; rw [es2, hx, hvl, hvc]
        rw [hov] at hc
        rw [hx] at hv2
        have zs2 : s2.size ≤ 1000 := plain_sz (by rw [eb2]; exact hv1)
        obtain ⟨t2, ht2, e2, z2⟩ := letter_of (znW x)
        have zz2 := znW_len hv2
        obtain ⟨u1, q1, r1, d1⟩ := add_ex ⟨#[118, 97, 114, 32]⟩ s2 (by show 4 + _ ≤ _; omega)
        have g1 : (⟨#[118, 97, 114, 32]⟩ : ByteArray).size = 4 := rfl
        obtain ⟨u2, q2, r2, d2⟩ := add_ex u1 ⟨#[32, 61, 32]⟩ (by show _ + 3 ≤ _; omega)
        have g2 : (⟨#[32, 61, 32]⟩ : ByteArray).size = 3 := rfl
        obtain ⟨u3, q3, r3, d3⟩ := add_ex u2 t2 (by omega)
        have zu : u3.size ≤ 140737488340000 := by omega
        obtain ⟨L2, hL2⟩ : ∃ L, (((c.2.2.1.take i).map varW).flatten).foldl wpL L1 = L := ⟨_, rfl⟩
        rw [hL2] at k htk
        have HT2 : Hid ((((c.2.2.1.take (i + 1)).map varW).flatten).foldl wpL L1 = wlL L2 1 (bl u3)) := by
          show _ = _
          rw [htk, q3, q2, q1, e2, eb2, ← hx]
          rfl
        clear q1 q2 q3 r1 r2 r3 g1 g2 e2 z2 zz2 zs2 hov hvl hvc hx es2 eb2 ez2 htk hL2 hq hv1
        have i1 : (i : Int) < (nv : Int) := by omega
        have i2 : (0 : Int) ≤ (i : Int) := by omega
        have C0 := ((HKW.out.2.1.trans k.2.1).cell (p := ⟨bb, off + i * 4 + 0, none⟩) hbb).trans (hc 0 _ rfl)
        have C1 := ((HKW.out.2.1.trans k.2.1).cell (p := ⟨bb, off + i * 4 + 1, none⟩) hbb).trans (hc 1 _ rfl)
        have C2 := ((HKW.out.2.1.trans k.2.1).cell (p := ⟨bb, off + i * 4 + 2, none⟩) hbb).trans (hc 2 _ rfl)
        have C3 := ((HKW.out.2.1.trans k.2.1).cell (p := ⟨bb, off + i * 4 + 3, none⟩) hbb).trans (hc 3 _ rfl)
        rw [Nat.add_zero] at C0
        clear hc
        have hal : Below wr.heap.size wr (wr.alloc (.cells #[.string s2, .int .i64 x, .int .i64 vl, .int .i64 vc] 53)) := (Below.refl _ _).alloc (Nat.le_refl _) _
        have hX : Bn (wr.alloc (.cells #[.string s2, .int .i64 x, .int .i64 vl, .int .i64 vc] 53)) wr.heap.size [.string s2, .int .i64 x, .int .i64 vl, .int .i64 vc] := Bn.new wr [.string s2, .int .i64 x, .int .i64 vl, .int .i64 vc] 53 _ rfl
        have hOv : (wr.alloc (.cells #[.string s2, .int .i64 x, .int .i64 vl, .int .i64 vc] 53)).heap[wr.heap.size]? = some (.cells #[.string s2, .int .i64 x, .int .i64 vl, .int .i64 vc] 53 (0, 0)) := blk_new _ _
        have hbR : b ≠ wr.heap.size := Nat.ne_of_lt k.1.lt
        have kx := k.on hBx hal
        go_upto_region 5 with fail
        clear C0 C1 C2 C3
        generalize (wr.alloc (.cells #[.string s2, .int .i64 x, .int .i64 vl, .int .i64 vc] 53)) = wy at *
        have hln : ∀ w1, Below wy.heap.size wy w1 → Calls Tryz.prog 62 #[.pointer (some ⟨b, 0, none⟩), .int .i64 1, .string u3] w1 fun e w' => e = .returned (.tuple #[]) ∧ Wx B b (wlL L2 1 (bl u3)) wx w' ∧ w'.heap[wr.heap.size]? = wy.heap[wr.heap.size]? := fun w1 b1 => by
          have hk := kx.on hBx b1
          refine (line_any 1 u3 hk.1 (by omega) zu (Nat.le_trans hBx hk.2.1.size)).mono ?_
          rintro e w' ⟨he, hw⟩
          have h3 := b1.block wr.heap.size hX.lt
          exact ⟨he, hk.trans hw, (keepX hw.2.2 (h3.trans hOv) hbR (by decide)).trans h3⟩
        have hfm : ∀ w1, Below wy.heap.size wy w1 → Calls Tryz.prog 38 #[.int .i64 x, .int .i64 10] w1 fun e w' => e = .returned (.string t2) ∧ Below w1.heap.size w1 w' := fun w1 b1 => by
          rw [← ht2]; exact fmtZ_any hv2.1 hv2.2 w1 (HP.out w1 (HKW.out.2.1.trans (kx.on hBx b1).2.1))
        obtain ⟨c0, _⟩ := hX 0 _ rfl
        obtain ⟨c1, _⟩ := hX 1 _ rfl
        have hlt := hX.lt
        obtain ⟨R, hR⟩ : ∃ R, wr.heap.size = R := ⟨_, rfl⟩
        rw [hR] at c0 c1 hlt ⊢
        simp only [hR] at hln
        clear k kx hX hOv hal hR ht2
        have hB : Below wy.heap.size wy wy := Below.refl _ _
        have y0 := c0
        have y1 := c1
        go_region_held_law (fun w' => w'.cell? ⟨R, 0, none⟩ = some (.string s2) ∧ w'.cell? ⟨R, 1, none⟩ = some (.int .i64 x))
          ((refine ⟨?_, ?_⟩ <;> (repeat (first | (with_reducible exact y0) | (with_reducible exact y1) | (with_reducible refine cell_dr ?_))) <;> done))
          (first
            | (go_at_call 38; (first | (with_reducible refine (hfm _ hB).mono ?_) | (with_reducible refine (hfm _ hB.drew).mono ?_)); rintro e w1 ⟨rfl, b1⟩; (first | have hB := Below.nxd hB b1 | have hB := Below.nx hB b1); have y0 := (hB.cell (p := ⟨R, 0, none⟩) hlt).trans c0; have y1 := (hB.cell (p := ⟨R, 1, none⟩) hlt).trans c1)
            | (go_at_call 62; (first | (with_reducible refine (hln _ hB).mono ?_) | (with_reducible refine (hln _ hB.drew).mono ?_)); rintro e w1 ⟨rfl, k, kb⟩; have y0 := keep_cell (p := ⟨R, 0, none⟩) kb c0; have y1 := keep_cell (p := ⟨R, 1, none⟩) kb c1)
            | fail)
        all_goals (
          rw [← HT2.out] at k
          go_wp2
          go_roundw
          case rel => exact ⟨i + 1, hlti, by go_num, k⟩
          case measure => simp [RowKit.intOf]; omega)
      · have i1 : ¬ (i : Int) < (nv : Int) := by omega
        obtain rfl : i = nv := by omega
        have y5 := keep_cell (p := ⟨S, 5, none⟩) (keepX k.2.2 hO hbS (by decide)) c5
        have hline : ∀ t l' w1, Wx B b l' wx w1 → t.size ≤ 140737488340000 → Calls Tryz.prog 62 #[.pointer (some ⟨b, 0, none⟩), .int .i64 0, .string t] w1 fun e w' => e = .returned (.tuple #[]) ∧ Wx B b (wlL l' 0 (bl t)) wx w' := fun t l' w1 k ht => lineX (B := B) (b := b) (w := wx) hBx 0 t l' w1 k (by omega) ht
        have hstates : ∀ (l1 : List UInt8) (w1 : World), Wx B b l1 wx w1 → Calls Tryz.prog 63 #[.pointer (some ⟨b, 0, none⟩), .int .i64 1, .slice p4 ni p6] w1 fun e w' => e = .returned (.tuple #[]) ∧ Wx B b (((c.2.2.2.map (stW d 1)).flatten).foldl wpL l1) wx w' := fun l1 w1 k1 => (HST.out l1 w1 (HKW.out.trans k1)).mono (fun e w' hh => ⟨hh.1, k1.trans hh.2⟩)
        go_wp2_with (first
          | (go_at_call 63; refine (hstates _ _ k).mono ?_; clear k; rintro e w2 ⟨rfl, k⟩)
          | (go_at_call 62; refine (hline _ _ _ k (by assumption)).mono ?_; clear k; rintro e w2 ⟨rfl, k⟩)
          | fail)
        go_end0
        rw [← HF2.out] at k
        exact ⟨rfl, HKW.out.trans k⟩)

theorem Tryz.undPu8 : Tryz.prog.underlying 129 = some (.pointer 5) := by kernel_rfl
theorem Tryz.cellsU8 : Tryz.prog.cellsOf 5 = 1 := by kernel_rfl
/-- The row of a builder that is not empty. -/
theorem wr_row {B b : Nat} {l : List UInt8} {w : World} (h : Wr B b l w) (h0 : l ≠ []) : ∃ p g cap cur fz, w.heap[b]? = some (.cells #[p, .slice (some ⟨g, 0, none⟩) l.length cap] 74 (0, 0)) ∧ B ≤ g ∧ w.heap[g]? = some (.cells cur 5 fz) ∧ l.length ≤ cap ∧ cap ≤ maxLen ∧ cur.size = cap * 1 ∧ w.ownsRowF B 5 1 (.slice (some ⟨g, 0, none⟩) l.length cap) l.length (Lib.byteCells l) := by
  have key : ∀ p, Lib.BuilderAtF 74 5 B b p (Lib.byteCells l) w → ∃ p g cap cur fz, w.heap[b]? = some (.cells #[p, .slice (some ⟨g, 0, none⟩) l.length cap] 74 (0, 0)) ∧ B ≤ g ∧ w.heap[g]? = some (.cells cur 5 fz) ∧ l.length ≤ cap ∧ cap ≤ maxLen ∧ cur.size = cap * 1 ∧ w.ownsRowF B 5 1 (.slice (some ⟨g, 0, none⟩) l.length cap) l.length (Lib.byteCells l) := by
    rintro p ⟨_, v, hb, ho, _⟩
    rw [Lib.byteCells_length] at ho
    rcases ho.2 with ⟨_, hz⟩ | ⟨g, cap, cur, fz, hv, h1, h2, _, h4, h5, h6, _⟩
    · exact absurd (List.length_eq_zero_iff.1 hz) h0
    · subst hv
      exact ⟨p, g, cap, cur, fz, hb, h1, h2, h4, h5, h6, ho⟩
  exact h.elim (key _) (key _)
set_option maxHeartbeats 1000000 in
set_option maxRecDepth 100000 in
theorem wString_any {B b : Nat} {l : List UInt8} {w : World} (h : Wr B b l w) (h0 : l ≠ []) :
    Calls Tryz.prog 35 #[.pointer (some ⟨b, 0, none⟩)] w fun e w' => e = .returned (.string ⟨l.toArray⟩) ∧ Below B w w' := by
  obtain ⟨p, g, cap, cur, fz, hb, hBg, hg, hc, hcm, hcs, ho⟩ := wr_row h h0
  have hn : 0 < l.length := List.length_pos_iff.2 h0
  have c1 : w.drew.cell? ⟨b, 1, none⟩ = some (.slice (some ⟨g, 0, none⟩) l.length cap) := by
    rw [Lib.cell_of_heap (show w.drew.heap[b]? = _ from hb)]; rfl
  have d1 : (Builtin.unsafeSliceData_ #[70] 129 #[.slice (some ⟨g, 0, none⟩) l.length cap]).run Tryz.prog w.drew = .ok (.pointer (some ⟨g, 0, none⟩)) w.drew := Lib.run_unsafeSliceData_row _ _ _ _ _ _ (by omega)
  have hsh : w.drew.shape? g = some (5, cur.size) := by
    have h2 : w.drew.heap[g]? = some (.cells cur 5 fz) := hg
    simp [World.shape?, h2]
  have d2 : (Builtin.unsafeString_ #[129, 3] 9 #[.pointer (some ⟨g, 0, none⟩), .int .i64 l.length]).run Tryz.prog w.drew = .ok (.string ⟨l.toArray⟩) (w.drew.freeze ⟨g, 0, none⟩ l.length) :=
    Lib.run_unsafeString_row w.drew 129 3 9 5 Tryz.undPu8 Tryz.cellsU8 g cur.size hsh l h0 (by omega) (by unfold maxLen at hcm; omega) (fun j x hx => ho.cells (g := g) rfl j (.int .u8 x.toNat) (by simp [Lib.byteCells, hx]))
  have mixed : Tryz.prog.follows Departure.mixedOrders = true := by kernel_rfl
  clear h hb ho hsh hg
  go_enter Tryz.func35, Tryz.ntmps35
  go_wp2
  go_region_o
  all_goals (
    go_wp2
    go_ret
    exact ⟨rfl, Lib.below_freeze (Below.drew (Below.refl B w)) (p := ⟨g, 0, none⟩) hBg _⟩)

/-- All parts are short. -/
def SmL (cs : List (List UInt8)) : Prop := ∀ c ∈ cs, c.length ≤ 100000
theorem SmL.app {a b : List (List UInt8)} (h : SmL a) (k : SmL b) : SmL (a ++ b) := fun c hc => (List.mem_append.1 hc).elim (h c) (k c)
theorem SmL.flat {α : Type} {f : α → List (List UInt8)} {l : List α} (h : ∀ x ∈ l, SmL (f x)) : SmL (l.map f).flatten := fun c hc => by
  obtain ⟨a, ha, hca⟩ := List.mem_flatten.1 hc
  obtain ⟨x, hx, rfl⟩ := List.mem_map.1 ha
  exact h x hx c hca
theorem SmL.ln {n : Nat} {s : List UInt8} (hn : n ≤ 1000) (hs : s.length ≤ 100000) : SmL (lnW n s) := fun c hc => by
  unfold lnW at hc
  simp only [List.mem_cons, List.not_mem_nil, or_false] at hc
  rcases hc with rfl | rfl | rfl
  · rw [List.length_replicate]; omega
  · exact hs
  · show 1 ≤ _; omega
theorem plain_96 {s : List UInt8} (h : plainB s = true) : s.length ≤ 96 := name_len (plain_name h)
theorem smL_on {n : Nat} {o : OnC} (hn : n ≤ 1000) (hf : onF o = true) (hc : OnCl o) : SmL (onW n o) := by
  obtain ⟨f1, f2, f3, f4⟩ := onF_parts hf
  have h1 := plain_96 f1
  have h3 := plain_96 f3
  intro c hcm
  unfold onW grdW at hcm
  simp only [List.mem_append, List.mem_cons, List.not_mem_nil, or_false, List.mem_map] at hcm
  rcases hcm with (rfl | rfl) | hg | rfl | ⟨s, hs, rfl⟩ | rfl
  · rw [List.length_replicate]; omega
  · simp only [List.length_append, List.length_cons, List.length_nil]; omega
  · by_cases hgb : o.2.1.1 = true
    · rw [if_pos hgb] at hg
      simp only [List.mem_cons, List.not_mem_nil, or_false] at hg
      subst hg
      have := (ex_text (hc.1 hgb) (f2 hgb)).2.1
      simp only [List.length_append, List.length_cons, List.length_nil]; omega
    · rw [if_neg hgb] at hg
      cases hg
  · simp only [List.length_append, List.length_cons, List.length_nil]; omega
  · obtain ⟨g1, _, g3, _⟩ := set_text (List.all_eq_true.1 f4 s hs) (hc.2 s hs)
    unfold setW
    simp only [List.length_append, List.length_cons, List.length_nil]; omega
  · show 1 ≤ _; omega
theorem smL_knd {n : Nat} {h : HdC} (hn : n ≤ 1000) (hf : kndF h = true) : SmL (kndW n h) := by
  unfold kndW
  by_cases h1 : h.2.1.1 = true
  · rw [if_pos h1]; exact SmL.ln hn (by show 3 ≤ _; omega)
  · rw [if_neg h1]
    by_cases h2 : h.2.1.2 = true
    · rw [if_pos h2]; exact SmL.ln hn (by show 3 ≤ _; omega)
    · rw [if_neg h2]
      by_cases h3 : h.2.2.1.1 ≠ []
      · rw [if_pos h3]
        obtain ⟨_, _, k3, k4, k5, k6⟩ := kndF_step hf (step_do h3)
        have q3 := plain_96 k3
        have q4 := plain_96 k4
        have q5 := dc_len (nb_of k5)
        have q6 := dc_len (nb_of k6)
        refine SmL.ln hn ?_
        unfold doW
        simp only [List.length_append, List.length_cons, List.length_nil]; omega
      · rw [if_neg h3]; exact fun c hc => by cases hc
theorem smL_st : ∀ (d n : Nat) (t : St d), stF d n t = true → StCl d t → SmL (stW d n t)
  | 0, _, t, _, _ => Empty.elim t
  | d + 1, n, t, h, hc => by
    obtain ⟨h1, h2, h3, h4, h5⟩ := stF_parts h
    have q2 := plain_96 h2
    refine SmL.app (SmL.ln (by omega) ?_) (SmL.app (smL_knd (by omega) h3) (SmL.app (SmL.flat fun o ho => smL_on (by omega) (List.all_eq_true.1 h4 o ho) (hc.1 o ho)) (SmL.app (SmL.flat fun x hx => smL_st d (n + 1) x (List.all_eq_true.1 h5 x hx) (hc.2 x hx)) (SmL.ln (by omega) (by show 1 ≤ _; omega)))))
    unfold stnW
    simp only [List.length_append, List.length_cons, List.length_nil]; omega
theorem smL_ch {d : Nat} {c : ChX d} (h : chF d c = true) (hc : ∀ t ∈ c.2.2.2, StCl d t) : SmL (chW d c) := by
  obtain ⟨h1, h2, h3, h4⟩ := chF_parts h
  have q1 := plain_96 h1
  have q2 := dc_len (nb_of h2)
  refine SmL.app (SmL.ln (by omega) ?_) (SmL.app (SmL.flat fun v hv => SmL.ln (by omega) ?_) (SmL.app (SmL.flat fun x hx => smL_st d 1 x (List.all_eq_true.1 h4 x hx) (hc x hx)) (SmL.ln (by omega) (by show 1 ≤ _; omega))))
  · unfold chnW
    simp only [List.length_append, List.length_cons, List.length_nil]; omega
  · have hv := List.all_eq_true.1 h3 v hv
    unfold varF at hv
    simp only [Bool.and_eq_true, decide_eq_true_eq] at hv
    have q3 := plain_96 hv.1
    have q4 := znW_len hv.2
    simp only [List.length_append, List.length_cons, List.length_nil]; omega
theorem fold_le : ∀ (cs : List (List UInt8)) (l : List UInt8), SmL cs → l.length ≤ 200000 → (cs.foldl wpL l).length ≤ 200000
  | [], l, _, hl => hl
  | c :: cs, l, h, hl => by
    rw [List.foldl_cons]
    refine fold_le cs _ (fun x hx => h x (by simp [hx])) ?_
    unfold wpL
    have := h c (by simp)
    split
    · rw [List.length_append]; omega
    · exact hl
/-- What Print answers. -/
def prG (d : Nat) (c : ChX d) : List UInt8 × Int := if chF d c = true then (if (txQ (chQ d c)).length ≤ 12000 ∧ (tkQ (chQ d c)).length ≤ 3000 then (txQ (chQ d c), 0) else ([], 4)) else ([], 1)
theorem wr_words {d : Nat} {c : ChX d} (h : chF d c = true) (hc : ∀ t ∈ c.2.2.2, StCl d t) : ∃ L, (chW d c).foldl wpL [] = L ∧ L ≠ [] ∧ L.length ≤ 200000 ∧ prG d c = if (wordsS L).2.2 = 0 then (L, 0) else ([], (wordsS L).2.2) := by
  refine ⟨_, rfl, ?_, fold_le _ _ (smL_ch h hc) (by simp), ?_⟩
  · intro e
    by_cases hl : (txQ (chQ d c)).length ≤ 12000
    · rw [wr_short h hl] at e
      unfold chQ at e
      rw [txQ_app] at e
      have := (List.append_eq_nil_iff.1 e).1
      simp [txQ, pieQ, kwQ, wChart] at this
    · have := wr_long h hl
      rw [e] at this
      simp at this
  · unfold prG
    rw [if_pos h]
    by_cases hl : (txQ (chQ d c)).length ≤ 12000
    · rw [wr_short h hl]
      have hw := words_Q (fitQ_ch h hc)
      by_cases hk : (tkQ (chQ d c)).length ≤ 3000
      · rw [if_pos ⟨hl, hk⟩] at hw ⊢
        have e0 : (wordsS (txQ (chQ d c))).2.2 = 0 := congrArg Prod.snd hw
        rw [if_pos e0]
      · rw [if_neg (fun q => hk q.2)] at hw ⊢
        have e0 : (wordsS (txQ (chQ d c))).2.2 = 4 := congrArg Prod.snd hw
        rw [if_neg (by rw [e0]; decide), e0]
    · have hL := wr_long h hl
      rw [if_neg (fun q => hl q.1)]
      generalize (chW d c).foldl wpL [] = L at hL
      have e0 : (wordsS L).2.2 = 4 := by unfold wordsS; rw [if_pos hL]
      rw [if_neg (by rw [e0]; decide), e0]
set_option maxRecDepth 100000 in
set_option maxHeartbeats 16000000 in
theorem print_no {w : World} (s0 : ByteArray) (vn pl pc : Int) (p1 : Option Addr) (nv p3 : Nat) (p4 : Option Addr) (ni p6 : Nat) (hF : ∀ w1, Below w.heap.size w w1 → Calls Tryz.prog 17 #[.agg #[.string s0, .int .i64 vn, .int .i64 pl, .int .i64 pc, .slice p1 nv p3, .slice p4 ni p6]] w1 fun e w' => e = .returned (.bool false) ∧ Below w1.heap.size w1 w') :
    Calls Tryz.prog 15 #[.agg #[.string s0, .int .i64 vn, .int .i64 pl, .int .i64 pc, .slice p1 nv p3, .slice p4 ni p6]] w fun e w' => e = .returned (.tuple #[.string ⟨#[]⟩, .int .i64 1]) ∧ Below w.heap.size w w' := by
  have hal : Below w.heap.size w (w.alloc (.cells #[.string s0, .int .i64 vn, .int .i64 pl, .int .i64 pc, .slice p1 nv p3, .slice p4 ni p6] 33)) := (Below.refl w.heap.size w).alloc (Nat.le_refl _) _
  have hX : Bn (w.alloc (.cells #[.string s0, .int .i64 vn, .int .i64 pl, .int .i64 pc, .slice p1 nv p3, .slice p4 ni p6] 33)) w.heap.size [.string s0, .int .i64 vn, .int .i64 pl, .int .i64 pc, .slice p1 nv p3, .slice p4 ni p6] := Bn.new w [.string s0, .int .i64 vn, .int .i64 pl, .int .i64 pc, .slice p1 nv p3, .slice p4 ni p6] 33 _ rfl
  have hF1 := hF _ hal
  go_enter Tryz.func15, Tryz.ntmps15
  go_upto_region 1 with fail
  generalize (w.alloc (.cells #[.string s0, .int .i64 vn, .int .i64 pl, .int .i64 pc, .slice p1 nv p3, .slice p4 ni p6] 33)) = wx at *
  obtain ⟨c0, _⟩ := hX 0 _ rfl
  obtain ⟨c1, _⟩ := hX 1 _ rfl
  obtain ⟨c2, _⟩ := hX 2 _ rfl
  obtain ⟨c3, _⟩ := hX 3 _ rfl
  obtain ⟨c4, _⟩ := hX 4 _ rfl
  obtain ⟨c5, _⟩ := hX 5 _ rfl
  go_wp2_with (first
    | (go_at_call 17; refine hF1.mono ?_; rintro e w1 ⟨rfl, b1⟩)
    | fail)
  go_ret2
  exact ⟨rfl, hal.trans (b1.mono hal.size)⟩
set_option maxRecDepth 100000 in
set_option maxHeartbeats 16000000 in
theorem print_yes {w : World} (s0 : ByteArray) (vn pl pc : Int) (p1 : Option Addr) (nv p3 : Nat) (p4 : Option Addr) (ni p6 : Nat) (L : List UInt8) (h0 : L ≠ []) (hL : L.length ≤ 200000) (hF : ∀ w1, Below w.heap.size w w1 → Calls Tryz.prog 17 #[.agg #[.string s0, .int .i64 vn, .int .i64 pl, .int .i64 pc, .slice p1 nv p3, .slice p4 ni p6]] w1 fun e w' => e = .returned (.bool true) ∧ Below w1.heap.size w1 w')
    (hC : ∀ B b w1, Below w.heap.size w w1 → w.heap.size ≤ B → B ≤ w1.heap.size → Wr B b [] w1 → Calls Tryz.prog 34 #[.pointer (some ⟨b, 0, none⟩), .agg #[.string s0, .int .i64 vn, .int .i64 pl, .int .i64 pc, .slice p1 nv p3, .slice p4 ni p6]] w1 fun e w' => e = .returned (.tuple #[]) ∧ Wx B b L w1 w') :
    Calls Tryz.prog 15 #[.agg #[.string s0, .int .i64 vn, .int .i64 pl, .int .i64 pc, .slice p1 nv p3, .slice p4 ni p6]] w fun e w' => e = .returned (.tuple #[.string ⟨(if (wordsS L).2.2 = 0 then L else []).toArray⟩, .int .i64 (wordsS L).2.2]) ∧ Below w.heap.size w w' := by
  have hal : Below w.heap.size w (w.alloc (.cells #[.string s0, .int .i64 vn, .int .i64 pl, .int .i64 pc, .slice p1 nv p3, .slice p4 ni p6] 33)) := (Below.refl w.heap.size w).alloc (Nat.le_refl _) _
  have hX : Bn (w.alloc (.cells #[.string s0, .int .i64 vn, .int .i64 pl, .int .i64 pc, .slice p1 nv p3, .slice p4 ni p6] 33)) w.heap.size [.string s0, .int .i64 vn, .int .i64 pl, .int .i64 pc, .slice p1 nv p3, .slice p4 ni p6] := Bn.new w [.string s0, .int .i64 vn, .int .i64 pl, .int .i64 pc, .slice p1 nv p3, .slice p4 ni p6] 33 _ rfl
  have hF1 := hF _ hal
  obtain ⟨LT, hLT, eLT, zLT⟩ := letter_of L
  have hWd := fun w1 => pWords_any LT w1 (by omega)
  rw [eLT] at hWd
  obtain ⟨we, hwe⟩ : ∃ x, (wordsS L).2.2 = x := ⟨_, rfl⟩
  obtain ⟨wl, hwl⟩ : ∃ x, (wordsS L).2.1.1 = x := ⟨_, rfl⟩
  obtain ⟨wc, hwc⟩ : ∃ x, (wordsS L).2.1.2 = x := ⟨_, rfl⟩
  have hWf : ∀ w1, Calls Tryz.prog 36 #[.string LT] w1 fun e w' => ∃ u1 u2 u3, e = .returned (.tuple #[.slice u1 u2 u3, .agg #[.int .i64 wl, .int .i64 wc], .int .i64 we]) ∧ Below w1.heap.size w1 w' := fun w1 => (hWd w1).mono (fun e w' hh => by
    obtain ⟨u, h1, h2, h3⟩ := hh
    rw [hwe, hwl, hwc] at h1
    rcases h2.2 with ⟨hu, _⟩ | ⟨g, cap, cur, hu, _⟩
    · rw [hu] at h1
      exact ⟨_, _, _, h1, h3⟩
    · rw [hu] at h1
      exact ⟨_, _, _, h1, h3⟩)
  rw [hwe]
  obtain ⟨TX, hTX⟩ : ∃ TX : ByteArray, (⟨(if we = 0 then L else []).toArray⟩ : ByteArray) = TX := ⟨_, rfl⟩
  rw [hTX]
  have HTX := mkHid hTX
  clear hWd hwe hwl hwc hTX
  go_enter Tryz.func15, Tryz.ntmps15
  go_upto_region 1 with fail
  generalize (w.alloc (.cells #[.string s0, .int .i64 vn, .int .i64 pl, .int .i64 pc, .slice p1 nv p3, .slice p4 ni p6] 33)) = wx at *
  obtain ⟨c0, _⟩ := hX 0 _ rfl
  obtain ⟨c1, _⟩ := hX 1 _ rfl
  obtain ⟨c2, _⟩ := hX 2 _ rfl
  obtain ⟨c3, _⟩ := hX 3 _ rfl
  obtain ⟨c4, _⟩ := hX 4 _ rfl
  obtain ⟨c5, _⟩ := hX 5 _ rfl
  have hlt := hX.lt
  go_upto_region 3 with (first
    | (go_at_call 17; refine hF1.mono ?_; rintro e w1 ⟨rfl, b1⟩)
    | fail)
  have hb1 := hal.trans (b1.mono hal.size)
  have hX1 := hX.on b1
  have hal2 : Below w1.heap.size w1 (w1.alloc (.cells #[.pointer none, .slice none 0 0] 74)) := (Below.refl _ _).alloc (Nat.le_refl _) _
  have hWr : Wr w1.heap.size w1.heap.size [] (w1.alloc (.cells #[.pointer none, .slice none 0 0] 74)) := .inl ⟨Nat.le_refl _, _, blk_new _ _, World.ownsRowF_of (World.ownsRow_nil _ _ _ _), by simp [Value.ownBlock]⟩
  have hCh := hC w1.heap.size w1.heap.size _ (hb1.trans (hal2.mono hb1.size)) hb1.size hal2.size hWr
  have hX2 := hX1.on hal2
  go_upto_region 4 with fail
  generalize (w1.alloc (.cells #[.pointer none, .slice none 0 0] 74)) = wy at *
  clear c0 c1 c2 c3 c4 c5 hF1 hF hC
  obtain ⟨c0, _⟩ := hX2 0 _ rfl
  obtain ⟨c1, _⟩ := hX2 1 _ rfl
  obtain ⟨c2, _⟩ := hX2 2 _ rfl
  obtain ⟨c3, _⟩ := hX2 3 _ rfl
  obtain ⟨c4, _⟩ := hX2 4 _ rfl
  obtain ⟨c5, _⟩ := hX2 5 _ rfl
  obtain ⟨b, hbb⟩ : ∃ b, w1.heap.size = b := ⟨_, rfl⟩
  rw [hbb] at hCh hWr ⊢
  have HB : Hid (w1.heap.size = b) := hbb
  have hbw : w.heap.size ≤ b := by have := hb1.size; omega
  have hal3 : Below w.heap.size w wy := hb1.trans (hal2.mono hb1.size)
  have hSt : ∀ w2, Wr b b L w2 → Calls Tryz.prog 35 #[.pointer (some ⟨b, 0, none⟩)] w2 fun e w' => e = .returned (.string LT) ∧ Below b w2 w' := fun w2 hw2 => by
    rw [← hLT]; exact wString_any hw2 h0
  clear hbb hX hX1 hX2 hWr hal hal2 b1 hb1
  by_cases hz : we = 0
  · subst hz
    have hTX := HTX.out
    rw [if_pos rfl, hLT] at hTX
    subst hTX
    clear hLT HTX
    go_wp2_with (first
      | (go_at_call 34; refine hCh.mono ?_; rintro e w2 ⟨rfl, k⟩)
      | (go_at_call 35; refine (hSt _ k.1).mono ?_; rintro e w3 ⟨rfl, b3⟩)
      | (go_at_call 36; refine (hWf _).mono ?_; rintro e w4 ⟨u1, u2, u3, rfl, b4⟩)
      | fail)
    go_ret2
    have hb4 : Below w.heap.size w w4 := by
      have q1 := hal3.trans (k.2.1.mono hbw)
      have q2 := q1.trans (b3.mono hbw)
      exact q2.trans (b4.mono q2.size)
    refine ⟨rfl, ?_⟩
    first
      | exact hb4.alloc hb4.size _
      | exact (hb4.alloc hb4.size _).setCell (p := ⟨w4.heap.size, 0, none⟩) hb4.size _
  · have hz2 : (we == 0) = false := by simpa using hz
    have i1 : ¬ we = 0 := hz
    have hTX := HTX.out
    rw [if_neg hz] at hTX
    subst hTX
    clear hLT HTX
    go_wp2_with (first
      | (go_at_call 34; refine hCh.mono ?_; rintro e w2 ⟨rfl, k⟩)
      | (go_at_call 35; refine (hSt _ k.1).mono ?_; rintro e w3 ⟨rfl, b3⟩)
      | (go_at_call 36; refine (hWf _).mono ?_; rintro e w4 ⟨u1, u2, u3, rfl, b4⟩)
      | fail)
    go_ret2
    have hb4 : Below w.heap.size w w4 := by
      have q1 := hal3.trans (k.2.1.mono hbw)
      have q2 := q1.trans (b3.mono hbw)
      exact q2.trans (b4.mono q2.size)
    refine ⟨rfl, ?_⟩
    first
      | exact hb4.alloc hb4.size _
      | exact (hb4.alloc hb4.size _).setCell (p := ⟨w4.heap.size, 0, none⟩) hb4.size _
/-- Print, whatever the chart is. -/
theorem printC_any {ok : Nat → Prop} {w : World} {d : Nat} {c : ChG d} {v : Value} (h : RdC ok w d c v) (hk : ChK d c) (hcl : ∀ t ∈ c.2.2.2, StCl d t) (hp : Pow w) :
    Calls Tryz.prog 15 #[v] w fun e w' => e = .returned (.tuple #[.string ⟨(prG d c).1.toArray⟩, .int .i64 (prG d c).2]) ∧ Below w.heap.size w w' := by
  have hF : ∀ w1, Below w.heap.size w w1 → Calls Tryz.prog 17 #[v] w1 fun e w' => e = .returned (.bool (chF d c)) ∧ Below w1.heap.size w1 w' := fun w1 b1 => formedC_any (h.keep (ok' := ok) (fun b hb hl => ⟨hb, b1.block b hl⟩)) hk (hp.below b1)
  obtain ⟨sv, ss, rfl, hv, hs⟩ := h
  obtain ⟨p1, p3, rfl, _⟩ := hv.form
  obtain ⟨p4, p6, rfl, _⟩ := hs.form
  obtain ⟨s0, e0, eb, _⟩ := letter_of c.1.1
  have es : sV c.1.1 = .string s0 := by unfold sV; rw [e0]
  rw [es] at hF ⊢
  cases hcf : chF d c with
  | false =>
    rw [hcf] at hF
    have e : prG d c = ([], 1) := by unfold prG; rw [if_neg (by rw [hcf]; decide)]
    rw [e]
    exact print_no s0 _ _ _ p1 _ p3 p4 _ p6 hF
  | true =>
    rw [hcf] at hF
    obtain ⟨L, hL, h0, hl, hpr⟩ := wr_words hcf hcl
    have e : prG d c = ((if (wordsS L).2.2 = 0 then L else []), (wordsS L).2.2) := by
      rw [hpr]
      split
      · next hh => rw [hh]
      · rfl
    rw [e]
    refine print_yes s0 _ _ _ p1 _ p3 p4 _ p6 L h0 hl hF (fun B b w1 b1 hB1 hB2 hw1 => ?_)
    have := wchart_walk c s0 c.2.1 c.1.2.1 c.1.2.2 p1 _ p3 p4 _ p6 hw1 hB2 eb rfl (hv.stay kp_var (ok' := fun x => x < B) (fun b hb hl => ⟨Nat.lt_of_lt_of_le hl hB1, b1.block b hl⟩)) rfl (hs.stay (kp_st d) (ok' := fun x => x < B) (fun b hb hl => ⟨Nat.lt_of_lt_of_le hl hB1, b1.block b hl⟩)) hcf hcl (fun w2 b2 => hp.below (b1.trans (b2.mono hB1)))
    rw [hL] at this
    exact this
end Go.Proofs.YtifgbioacknjpaaGreatDoor
