import Derived.Test.YtoankfbccofllaaWqc11
import Derived.WalkSmall
import Derived.Test.YtoankfbccofllaaWqc04
import Derived.Test.YtoankfbccofllaaWqc06

/- The program's putPlaces: numbers turn, nothing else. -/
namespace Go.Proofs.Ytoankfbccofllaa
open Go.RowKit Go.Lib
set_option linter.unusedSimpArgs false
set_option linter.unusedVariables false
attribute [local go_sem ↓] Go.wp_at_zero Go.wp_at_succ
theorem kp_sh : ∀ d, Kp (rSh d)
  | 0 => fun _ _ _ _ x _ _ _ => Empty.elim x
  | d + 1 => fun _ _ _ _ _ _ ⟨i1, i2, c3, c4, c5, c6, c7, c8, so, si, h, h1, h2⟩ hk => ⟨i1, i2, c3, c4, c5, c6, c7, c8, so, si, h, h1.keep (fun _ _ _ h => h) hk, h2.stay (kp_sh d) hk⟩
theorem Iw.low {A K : Nat} {w w1 w2 : World} (h : Iw A K w w1) (k : Below w.heap.size w1 w2) : Iw A K w w2 :=
  ⟨k.os.trans h.os, k.tape.trans h.tape, k.output.trans h.output, Nat.le_trans h.size k.size, fun b hl hq => (k.block b hl).trans (h.block b hl hq), fun b o u hl hu => by
    obtain ⟨u1, h1, r1⟩ := h.cell b o u hl hu
    exact ⟨u1, (k.cell (p := ⟨b, o, none⟩) hl).trans h1, r1⟩, fun b o hl => (k.frozen (p := ⟨b, o, none⟩) hl).trans (h.fz b o hl)⟩
theorem hdV_let (h : HdC) : ∃ sn sl sc sb se sd su sw sr, ∀ so si, hdV h so si = [.string sn, .int .i64 sl, .int .i64 sc, .bool sb, .bool se, .string sd, .string su, .int .i64 sw, .int .i64 sr, so, si] := ⟨_, _, _, _, _, _, _, _, _, fun _ _ => rfl⟩
abbrev PE := Fo × Value × Value
def peV (P : List PE) : List Value := (P.map (fun p => [p.2.1, p.2.2])).flatten
theorem peV_len (P : List PE) : (peV P).length = P.length * 2 := by
  induction P with
  | nil => rfl
  | cons p P ih =>
    have : peV (p :: P) = p.2.1 :: p.2.2 :: peV P := rfl
    rw [this]
    simp [ih]
    omega
theorem peV_app (P Q : List PE) : peV (P ++ Q) = peV P ++ peV Q := by simp [peV]
def OwnP (w : World) (base : Nat) (v : Value) (P : List PE) : Prop := w.ownsRow base 116 2 v P.length (peV P)
def PrOk (A K : Nat) (w : World) (p : PE) : Prop := RdSh A K w p.1.1 p.1.2 p.2.1 ∧ RdK (fun b => b < A) w 11 (rSt p.1.1 (fun b => b < A) w) p.1.2 p.2.2
def peZ (p : PE) : Nat := szL p.1.1 p.1.2
theorem PrOk.on {A K : Nat} {w w' : World} {p : PE} (h : PrOk A K w p) (hw : Iw A K w w') : PrOk A K w' p := ⟨h.1.on hw, h.2.stay (kp_st _) (fun b hb hl => ⟨hb, hw.block b hl (.inl hb)⟩)⟩
theorem PrOk.low {A K : Nat} {w w' : World} {p : PE} (h : PrOk A K w p) (hA : A ≤ K) (hw : Below K w w') : PrOk A K w' p :=
  ⟨h.1.stay (kp_sh _) (fun b hb hl => ⟨⟨hb.1, hb.2.1, fun j => (hw.frozen (p := ⟨b, j, none⟩) hb.2.1).trans (hb.2.2 j)⟩, hw.block b hb.2.1⟩), h.2.stay (kp_st _) (fun b hb hl => ⟨hb, hw.block b (by have : b < A := hb; omega)⟩)⟩
/-- At whatever depth, one at some depth more. -/
theorem PrOk.deep {A K : Nat} {w : World} {p : PE} (h : PrOk A K w p) : ∃ (d : Nat) (l : List (St (d + 1))), PrOk A K w (⟨d + 1, l⟩, p.2) ∧ peZ p = szL (d + 1) l := by
  obtain ⟨⟨d, l⟩, a, b⟩ := p
  cases d with
  | succ d => exact ⟨d, l, h, rfl⟩
  | zero =>
    cases l with
    | cons x _ => exact Empty.elim x
    | nil =>
      obtain ⟨⟨a1, c1, h1, h2, h3, _⟩, ⟨a2, c2, k1, k2, k3, _⟩⟩ := h
      exact ⟨0, [], ⟨⟨a1, c1, h1, h2, h3, fun i hi => absurd hi (by simp)⟩, ⟨a2, c2, k1, k2, k3, fun i hi => absurd hi (by simp)⟩⟩, rfl⟩
theorem ownP_pop {w : World} {base : Nat} {v : Value} {P : List PE} {p : PE} (h : OwnP w base v (P ++ [p])) : ∃ g cap, v = .slice (some ⟨g, 0, none⟩) (P.length + 1) cap ∧ P.length + 1 ≤ cap ∧ cap ≤ maxLen ∧ base ≤ g ∧ g < w.heap.size ∧ w.cell? ⟨g, P.length * 2, none⟩ = some p.2.1 ∧ w.cell? ⟨g, P.length * 2 + 1, none⟩ = some p.2.2 ∧ OwnP w base (.slice (some ⟨g, 0, none⟩) P.length cap) P := by
  unfold OwnP at h
  rw [List.length_append, List.length_singleton, peV_app] at h
  rcases h.2 with ⟨_, h2⟩ | ⟨g, cap, cur, rfl, hb, hg, hnc, hcm, _⟩
  · omega
  · have hc := World.ownsRow.cells h (g := g) rfl
    have h0 := hc (P.length * 2) p.2.1 (by rw [List.getElem?_append_right (by rw [peV_len]; omega), peV_len, Nat.sub_self]; rfl)
    have h1 := hc (P.length * 2 + 1) p.2.2 (by rw [List.getElem?_append_right (by rw [peV_len]; omega), peV_len, Nat.add_sub_cancel_left]; rfl)
    rw [add_plain, Nat.zero_add] at h0 h1
    exact ⟨g, cap, rfl, hnc, hcm, hb, (Array.getElem?_eq_some_iff.1 hg).1, h0, h1, ownsRow_pop (peV_len P) h⟩
theorem ownP_nil {w : World} {base : Nat} {v : Value} (h : OwnP w base v []) : ∃ a cap, v = .slice a 0 cap := by
  rcases h.2 with ⟨h1, _⟩ | ⟨g, cap, cur, rfl, _⟩
  · exact ⟨_, _, h1⟩
  · exact ⟨_, _, rfl⟩
theorem ownP_form {w : World} {base : Nat} {v : Value} {P : List PE} (h : OwnP w base v P) : ∃ a cap, v = .slice a P.length cap ∧ P.length ≤ cap ∧ cap ≤ maxLen := own_formP h
theorem OwnP.on {w w' : World} {base : Nat} {v : Value} {P : List PE} (h : OwnP w base v P) (hb : Below w.heap.size w w') : OwnP w' base v P := ownsRow_keep h (fun g hg => hb.block g (ownsRow_lt h g hg).2)
theorem last_ofE {P : List PE} (h : P ≠ []) : ∃ P' p, P = P' ++ [p] := ⟨P.dropLast, P.getLast h, (List.dropLast_concat_getLast h).symm⟩
theorem peZ_len : ∀ P : List PE, P.length ≤ (P.map peZ).sum
  | [] => by simp
  | p :: P => by
    have := peZ_len P
    have := szL_pos p.1.1 p.1.2
    show P.length + 1 ≤ szL p.1.1 p.1.2 + (P.map peZ).sum
    omega
theorem Try.infoTP : (Try.prog.info? 116).map (fun i => (i.zero, i.size, i.bytes)) = some (some (.agg #[.slice none 0 0, .slice none 0 0]), 2, 48) := by kernel_rfl
set_option maxRecDepth 100000 in
set_option maxHeartbeats 16000000 in
theorem putPlaces_any {w : World} {A K d : Nat} {l : List (St d)} {a1 : Option Addr} {n c1 : Nat} {a2 : Option Addr} {n2 c2 : Nat} (hA : A ≤ K) (hK : K ≤ w.heap.size) (hp : PrOk A K w (⟨d, l⟩, .slice a1 n c1, .slice a2 n2 c2)) (hz : szL d l ≤ 1000000) :
    Calls Try.prog 34 #[.slice a1 n c1, .slice a2 n2 c2] w fun e w' => (∃ v, e = .returned v) ∧ Iw A K w w' := by
  obtain ⟨ip, hip, hip0, hip1, hip2⟩ := info_parts Try.infoTP
  have hal : Below w.heap.size w (w.alloc (.cells #[.slice a1 n c1, .slice a2 n2 c2] 116)) := (Below.refl w.heap.size w).alloc (Nat.le_refl _) _
  have hrow : OwnP (w.alloc (.cells #[.slice a1 n c1, .slice a2 n2 c2] 116)) w.heap.size (.slice (some ⟨w.heap.size, 0, none⟩) 1 1) [(⟨d, l⟩, .slice a1 n c1, .slice a2 n2 c2)] := World.ownsRow_lit (e := 116) (base := w.heap.size) (size := 2) w #[.slice a1 n c1, .slice a2 n2 c2] 1 (Nat.le_refl _) (by simp [maxLen]) (by simp)
  go_enter Try.func34, Try.ntmps34
  go_upto_region 1 with fail
  have hP0 := hp.on (Iw.of (A := A) (K := K) hal)
  have hI0 := Iw.of (A := A) (K := K) hal
  have hs0 := hal.size
  generalize (w.alloc (.cells #[.slice a1 n c1, .slice a2 n2 c2] 116)) = wx at *
  go_wp2
  go_loopg [4] 1000000 (fun gn v wr => ∃ (P : List PE), Hid (OwnP wr w.heap.size v P) ∧ Hid (∀ p ∈ P, PrOk A K wr p) ∧ Hid ((P.map peZ).sum ≤ gn ∧ gn ≤ 1000000) ∧ Hid (Iw A K w wr))
  case atStart => exact ⟨_, hrow, fun p hp => by have : p = (⟨d, l⟩, .slice a1 n c1, .slice a2 n2 c2) := by simpa using hp
                                                 subst this
                                                 exact hP0, ⟨by show szL d l + 0 ≤ _; omega, Nat.le_refl _⟩, hI0⟩
  case round =>
    obtain ⟨P, HR, HP, HM, HI⟩ := hrel
    clear hP0 hI0 hrow hal hs0
    by_cases he : P = []
    · subst he
      obtain ⟨ra, rc, rfl⟩ := ownP_nil HR.out
      go_wp2
      go_end0
      exact ⟨⟨_, rfl⟩, HI.out⟩
    · obtain ⟨P', p, rfl⟩ := last_ofE he
      clear he
      obtain ⟨dd, ll, hpk, hzz⟩ := (HP.out p (List.mem_append_right _ List.mem_cons_self)).deep
      have hm := HM.out
      rw [List.map_append, List.sum_append, List.map_singleton, List.sum_singleton, hzz] at hm
      have hpl : P'.length ≤ 1000000 := by
        have := peZ_len P'
        omega
      obtain ⟨g, cap, rfl, hcap, hcm, hgb, hgl, c0, c1', hpop⟩ := ownP_pop HR.out
      obtain ⟨t1, t3, ht, htc, htm⟩ := hpk.1.form
      obtain ⟨s1, s3, hs, hsc, hsm⟩ := hpk.2.form
      simp only at ht hs
      rw [ht] at c0
      rw [hs] at c1'
      have hpk1 : RdSh A K wr (dd + 1) ll (.slice t1 ll.length t3) := by have := hpk.1; simp only [ht] at this; exact this
      have hpk2 : RdK (fun b => b < A) wr 11 (rSt (dd + 1) (fun b => b < A) wr) ll (.slice s1 ll.length s3) := by have := hpk.2; simp only [hs] at this; exact this
      have HPK1 := mkHid hpk1
      have HPK2 := mkHid hpk2
      have HPOP := mkHid hpop
      have HP' : Hid (∀ p ∈ P', PrOk A K wr p) := fun p hp => HP.out p (List.mem_append_left _ hp)
      have HM2 : Hid ((P'.map peZ).sum + szL (dd + 1) ll ≤ gk ∧ gk ≤ 1000000) := hm
      obtain ⟨m, hml⟩ : ∃ m, P'.length = m := ⟨_, rfl⟩
      obtain ⟨nl, hnl⟩ : ∃ m, ll.length = m := ⟨_, rfl⟩
      rw [hml] at c0 c1' hcap hpl ⊢
      rw [hnl] at c0 c1' htc hsc
      have HML : Hid (P'.length = m) := hml
      have HNL : Hid (ll.length = nl) := hnl
      have hnlz : nl ≤ 1000000 := by
        have h1 : szL (dd + 1) ll = (ll.map (fun t => szL dd t.2)).sum + 1 := rfl
        have h2 : ∀ l : List (St (dd + 1)), l.length ≤ (l.map (fun t => szL dd t.2)).sum := fun l => by
          induction l with
          | nil => simp
          | cons t l ih =>
            have := szL_pos dd t.2
            simp only [List.length_cons, List.map_cons, List.sum_cons]
            omega
        have := h2 ll
        omega
      clear hm HP HR HM hpk hpk1 hpk2 hpop hml hnl ht hs hzz
      unfold maxLen at hcm htm hsm
      have i1 : ((m : Int) + 1 > 0) := by omega
      have i3 : (0 : Int) ≤ (m : Int) := by omega
      have i4 : (m : Int) ≤ (cap : Int) := by omega
      have i5 : (m : Int) < (m : Int) + 1 := by omega
      go_upto_region 4 with fail
      have hal2 : Below wr.heap.size wr (wr.alloc (.cells #[.slice t1 nl t3, .slice s1 nl s3] 116)) := (Below.refl wr.heap.size wr).alloc (Nat.le_refl _) _
      have hX : Bn (wr.alloc (.cells #[.slice t1 nl t3, .slice s1 nl s3] 116)) wr.heap.size [.slice t1 nl t3, .slice s1 nl s3] := Bn.new wr [.slice t1 nl t3, .slice s1 nl s3] 116 _ rfl
      have hIp := Iw.of (A := A) (K := K) hal2
      have HR2 : Hid (OwnP (wr.alloc (.cells #[.slice t1 nl t3, .slice s1 nl s3] 116)) w.heap.size (.slice (some ⟨g, 0, none⟩) m cap) P') := by
        have := HPOP.out.on hal2
        rw [HML.out] at this
        exact this
      have HP2 : Hid (∀ p ∈ P', PrOk A K (wr.alloc (.cells #[.slice t1 nl t3, .slice s1 nl s3] 116)) p) := fun p hp => (HP'.out p hp).on hIp
      have HT : Hid (RdSh A K (wr.alloc (.cells #[.slice t1 nl t3, .slice s1 nl s3] 116)) (dd + 1) ll (.slice t1 nl t3)) := by
        have := HPK1.out.on hIp
        rw [HNL.out] at this
        exact this
      have HS : Hid (RdK (fun b => b < A) (wr.alloc (.cells #[.slice t1 nl t3, .slice s1 nl s3] 116)) 11 (rSt (dd + 1) (fun b => b < A) (wr.alloc (.cells #[.slice t1 nl t3, .slice s1 nl s3] 116))) ll (.slice s1 nl s3)) := by
        have := HPK2.out.stay (kp_st _) (ok' := fun b => b < A) (w' := wr.alloc (.cells #[.slice t1 nl t3, .slice s1 nl s3] 116)) (fun b hb hl => ⟨hb, hIp.block b hl (.inl hb)⟩)
        rw [HNL.out] at this
        exact this
      have HIp := mkHid (HI.out.trans hIp)
      have hwr : w.heap.size ≤ wr.heap.size := HI.out.size
      have hgX : g ≠ wr.heap.size := by omega
      obtain ⟨X, hXX⟩ : ∃ X, wr.heap.size = X := ⟨_, rfl⟩
      rw [hXX] at hX hwr hgX hgl ⊢
      clear hal2 hIp HPOP HP' HPK1 HPK2 HI c0 c1' hXX
      generalize (wr.alloc (.cells #[.slice t1 nl t3, .slice s1 nl s3] 116)) = wp at *
      obtain ⟨x0, _⟩ := hX 0 _ rfl
      have hXl := hX.lt
      go_wp2
      go_loopw [4, 28] (fun v ix wq => ∃ (j : Nat) (Q : List PE), j ≤ nl ∧ ix = .int .i64 (j : Int) ∧ Hid (Q.length = j) ∧ Hid (OwnP wq w.heap.size v (P' ++ Q)) ∧ Hid (∀ p ∈ P' ++ Q, PrOk A K wq p) ∧ Hid ((Q.map peZ).sum = ((ll.take j).map (fun t => szL dd t.2)).sum) ∧ Hid (Iw A K w wq) ∧ Hid (RdSh A K wq (dd + 1) ll (.slice t1 nl t3)) ∧ Hid (RdK (fun b => b < A) wq 11 (rSt (dd + 1) (fun b => b < A) wq) ll (.slice s1 nl s3)) ∧ Bn wq X [.slice t1 nl t3, .slice s1 nl s3] ∧ v.ownBlock ≠ some X) (fun _ ix _ => nl - (RowKit.intOf ix).toNat)
      case atStart => exact ⟨0, [], Nat.zero_le _, rfl, rfl, by show OwnP _ _ _ _; rw [List.append_nil]; exact HR2.out, by show ∀ p ∈ _, _; rw [List.append_nil]; exact HP2.out, rfl, HIp, HT, HS, hX, fun e => hgX (Option.some.inj e)⟩
      case round =>
        obtain ⟨j, Q, hj, rfl, HQ, HO, HPQ, HZ, HIw, HT', HS', hX', hno⟩ := hrel
        clear HR2 HP2 HT HS hX x0 HIp
        obtain ⟨va, vc, rfl, hvc, hvm⟩ := ownP_form HO.out
        have hlen : (P' ++ Q).length = m + j := by rw [List.length_append, HML.out, HQ.out]
        rw [hlen] at hvc hno ⊢
        unfold maxLen at hvm
        have HO2 : Hid (wr.ownsRow w.heap.size 116 2 (.slice va (m + j) vc) (m + j) (peV (P' ++ Q))) := by
          have := HO.out
          unfold OwnP at this
          rw [hlen] at this
          exact this
        have HL := mkHid hlen
        clear hlen HO
        have hXr := hX'.lt
        have hwq : w.heap.size ≤ wr.heap.size := HIw.out.size
        obtain ⟨x0, _⟩ := hX' 0 _ rfl
        obtain ⟨x1, _⟩ := hX' 1 _ rfl
        by_cases hlt : j < nl
        · have i6 : (j : Int) < (nl : Int) := by omega
          have i7 : (0 : Int) ≤ (j : Int) := by omega
          have hjl : j < ll.length := by rw [HNL.out]; exact hlt
          obtain ⟨b, off, e1, e2, e3, e4, e5, e6, e7, e8, p1, p3, p4, p6, rfl, hbA, hbK, hbl, hbf, hon, hin, hc⟩ := sh_at HT'.out j hjl
          obtain ⟨b', off', q1, q3, q4, q6, rfl, hbl', hon', hin', hc'⟩ := stQ_at HS'.out j hjl
          have hbA' : b' < A := by
            obtain ⟨_, _, he, _, _, h3⟩ := HS'.out
            obtain ⟨b2, off2, cs, ha, ho, _⟩ := h3 j hjl
            simp only [Value.slice.injEq] at he
            rw [← he.1] at ha
            simp only [Option.some.injEq, Addr.mk.injEq, and_true] at ha
            have : b2 < A := ho
            omega
          obtain ⟨sn, sl, sc, sb, se, sd, su, sw, sr, hsv⟩ := hdV_let ll[j].1
          rw [hsv] at hc'
          obtain ⟨no, hno2⟩ : ∃ no, ll[j].1.2.2.2.2.length = no := ⟨_, rfl⟩
          obtain ⟨ni, hni⟩ : ∃ ni, ll[j].2.length = ni := ⟨_, rfl⟩
          rw [hno2] at hon hc hon' hc'
          rw [hni] at hin hc hin' hc'
          have D0 := hc' 0 _ rfl
          have D1 := hc' 1 _ rfl
          have D2 := hc' 2 _ rfl
          have D3 := hc' 3 _ rfl
          have D4 := hc' 4 _ rfl
          have D5 := hc' 5 _ rfl
          have D6 := hc' 6 _ rfl
          have D7 := hc' 7 _ rfl
          have D8 := hc' 8 _ rfl
          have D9 := hc' 9 _ rfl
          have D10 := hc' 10 _ rfl
          rw [Nat.add_zero] at D0
          have E1 := hc 1 _ rfl
          have E2 := hc 2 _ rfl
          have E9 := hc 9 _ rfl
          have E10 := hc 10 _ rfl
          have hKr : K ≤ wr.heap.size := Nat.le_trans hK hwq
          have hcall : ∀ w1, Below wr.heap.size wr w1 → Calls Try.prog 41 #[.pointer (some ⟨b, off + j * 11, none⟩), .agg #[.string sn, .int .i64 sl, .int .i64 sc, .bool sb, .bool se, .string sd, .string su, .int .i64 sw, .int .i64 sr, .slice q1 no q3, .slice q4 ni q6]] w1 fun e w' => (∃ v, e = .returned v) ∧ Iw A K w1 w' := fun w1 b1 =>
            putOwn_any hbA hbK (Nat.le_trans hKr b1.size) hno2 (fun o => (b1.frozen (p := ⟨b, o, none⟩) hbl).trans (hbf o)) ((b1.cell (p := ⟨b, off + j * 11 + 1, none⟩) hbl).trans E1) ((b1.cell (p := ⟨b, off + j * 11 + 2, none⟩) hbl).trans E2) ((b1.cell (p := ⟨b, off + j * 11 + 9, none⟩) hbl).trans E9) (rdS_iw hon (.of b1)) sn sl sc sb se sd su sw sr q1 q3 q4 ni q6 (hon'.stay kp_on (fun b hb hl => ⟨hb, b1.block b hl⟩))
          have HIN := mkHid hin
          have HIN' := mkHid hin'
          clear hc hc' E1 E2 E9 hsv hno2 hon hon' hin hin'
          have HNI := mkHid hni
          clear hni
          go_upto_region 8 with fail
          have hXK : K ≤ X := by omega
          go_region_held_law (fun w' => w'.cell? ⟨X, 0, none⟩ = some (.slice (some ⟨b, off, none⟩) nl t3) ∧ w'.cell? ⟨X, 1, none⟩ = some (.slice (some ⟨b', off', none⟩) nl s3) ∧ w'.cell? ⟨b', off' + j * 11, none⟩ = some (.string sn) ∧ w'.cell? ⟨b', off' + j * 11 + 1, none⟩ = some (.int .i64 sl) ∧ w'.cell? ⟨b', off' + j * 11 + 2, none⟩ = some (.int .i64 sc) ∧ w'.cell? ⟨b', off' + j * 11 + 3, none⟩ = some (.bool sb) ∧ w'.cell? ⟨b', off' + j * 11 + 4, none⟩ = some (.bool se) ∧ w'.cell? ⟨b', off' + j * 11 + 5, none⟩ = some (.string sd) ∧ w'.cell? ⟨b', off' + j * 11 + 6, none⟩ = some (.string su) ∧ w'.cell? ⟨b', off' + j * 11 + 7, none⟩ = some (.int .i64 sw) ∧ w'.cell? ⟨b', off' + j * 11 + 8, none⟩ = some (.int .i64 sr) ∧ w'.cell? ⟨b', off' + j * 11 + 9, none⟩ = some (.slice q1 no q3) ∧ w'.cell? ⟨b', off' + j * 11 + 10, none⟩ = some (.slice q4 ni q6))
            ((refine ⟨?_, ?_, ?_, ?_, ?_, ?_, ?_, ?_, ?_, ?_, ?_, ?_, ?_⟩ <;> (repeat (first | (with_reducible exact x0) | (with_reducible exact x1) | (with_reducible exact D0) | (with_reducible exact D1) | (with_reducible exact D2) | (with_reducible exact D3) | (with_reducible exact D4) | (with_reducible exact D5) | (with_reducible exact D6) | (with_reducible exact D7) | (with_reducible exact D8) | (with_reducible exact D9) | (with_reducible exact D10) | (with_reducible refine cell_dr ?_))) <;> done))
            (first
              | (go_at_call 41; (with_reducible refine (hcall _ ((Below.refl _ wr).drew)).mono ?_); rintro e w3 ⟨⟨v3, rfl⟩, hw3d⟩; have hw3 : Iw A K wr w3 := (Iw.of ((Below.refl _ wr).drew)).trans hw3d; have qX := hw3.block X hXr (.inr hXK); have qb := hw3.block b' hbl' (.inl hbA'); have x0 := keep_cell (p := ⟨X, 0, none⟩) qX x0; have x1 := keep_cell (p := ⟨X, 1, none⟩) qX x1; have D0 := keep_cell (p := ⟨b', off' + j * 11, none⟩) qb D0; have D1 := keep_cell (p := ⟨b', off' + j * 11 + 1, none⟩) qb D1; have D2 := keep_cell (p := ⟨b', off' + j * 11 + 2, none⟩) qb D2; have D3 := keep_cell (p := ⟨b', off' + j * 11 + 3, none⟩) qb D3; have D4 := keep_cell (p := ⟨b', off' + j * 11 + 4, none⟩) qb D4; have D5 := keep_cell (p := ⟨b', off' + j * 11 + 5, none⟩) qb D5; have D6 := keep_cell (p := ⟨b', off' + j * 11 + 6, none⟩) qb D6; have D7 := keep_cell (p := ⟨b', off' + j * 11 + 7, none⟩) qb D7; have D8 := keep_cell (p := ⟨b', off' + j * 11 + 8, none⟩) qb D8; have D9 := keep_cell (p := ⟨b', off' + j * 11 + 9, none⟩) qb D9; have D10 := keep_cell (p := ⟨b', off' + j * 11 + 10, none⟩) qb D10)
              | fail)
          have E10' : w3.cell? ⟨b, off + j * 11 + 10, none⟩ = some (.slice p4 ni p6) := by
            obtain ⟨u, h1, h2⟩ := hw3.cell b (off + j * 11 + 10) _ hbl E10
            rw [h1, h2.slice]
          clear D0 D1 D2 D3 D4 D5 D6 D7 D8 D9 E10 qX qb hw3d hcall
          go_upto_region 9 with fail
          have hs3 := hw3.size
          have hrow3 : w3.ownsRow w.heap.size 116 2 (.slice va (m + j) vc) (m + j) (peV (P' ++ Q)) := ownsRow_keep HO2.out (fun g' hg' => hw3.block g' (ownsRow_lt HO2.out g' hg').2 (.inr (Nat.le_trans hK (ownsRow_lt HO2.out g' hg').1)))
          have hX3l : X < w3.heap.size := by omega
          have hb3 : b < w3.heap.size := by omega
          have hb3' : b' < w3.heap.size := by omega
          have hgo : ∀ g', (Value.slice va (m + j) vc).ownBlock = some g' → w.heap.size ≤ g' ∧ g' < w3.heap.size := fun g' hg' => ownsRow_lt hrow3 g' hg'
          have ngX : some X ≠ (Value.slice va (m + j) vc).ownBlock := fun e => hno e.symm
          have ngb : some b ≠ (Value.slice va (m + j) vc).ownBlock := fun e => by have := (hgo b e.symm).1; omega
          have ngb' : some b' ≠ (Value.slice va (m + j) vc).ownBlock := fun e => by have := (hgo b' e.symm).1; omega
          have hrowD : ((w3.alloc (.cells #[.slice p4 ni p6, .slice q4 ni q6] 116)).drew).ownsRow w.heap.size 116 2 (.slice va (m + j) vc) (m + j) (peV (P' ++ Q)) := World.ownsRow.alloc hrow3 _
          have hsrcD : Src Try.prog 2 117 (.slice (some ⟨w3.heap.size, 0, none⟩) 1 1) 1 [.slice p4 ni p6, .slice q4 ni q6] ((w3.alloc (.cells #[.slice p4 ni p6, .slice q4 ni q6] 116)).drew) := Src.ofSlice _ Try.underlying117 _ 1 1 _ (by simp) (fun j u hu => cells_new (w := w3) j u hu) (by simp [Value.oneCell'])
          have hbaD : w.heap.size ≤ ((w3.alloc (.cells #[.slice p4 ni p6, .slice q4 ni q6] 116)).drew).heap.size := by show _ ≤ (w3.alloc (.cells #[.slice p4 ni p6, .slice q4 ni q6] 116)).heap.size; simp; omega
          have y0 : ((w3.alloc (.cells #[.slice p4 ni p6, .slice q4 ni q6] 116)).drew).cell? ⟨X, 0, none⟩ = some (.slice (some ⟨b, off, none⟩) nl t3) := cell_al x0
          have y1 : ((w3.alloc (.cells #[.slice p4 ni p6, .slice q4 ni q6] 116)).drew).cell? ⟨X, 1, none⟩ = some (.slice (some ⟨b', off', none⟩) nl s3) := cell_al x1
          have y2 : ((w3.alloc (.cells #[.slice p4 ni p6, .slice q4 ni q6] 116)).drew).cell? ⟨b, off + j * 11 + 10, none⟩ = some (.slice p4 ni p6) := cell_al E10'
          have y3 : ((w3.alloc (.cells #[.slice p4 ni p6, .slice q4 ni q6] 116)).drew).cell? ⟨b', off' + j * 11 + 10, none⟩ = some (.slice q4 ni q6) := cell_al D10
          go_region_held_law (fun w' => w'.cell? ⟨X, 0, none⟩ = some (.slice (some ⟨b, off, none⟩) nl t3) ∧ w'.cell? ⟨X, 1, none⟩ = some (.slice (some ⟨b', off', none⟩) nl s3) ∧ w'.cell? ⟨b, off + j * 11 + 10, none⟩ = some (.slice p4 ni p6) ∧ w'.cell? ⟨b', off' + j * 11 + 10, none⟩ = some (.slice q4 ni q6))
            ((refine ⟨?_, ?_, ?_, ?_⟩ <;> (repeat (first | (with_reducible exact x0) | (with_reducible exact x1) | (with_reducible exact D10) | (with_reducible exact E10') | (with_reducible refine cell_al ?_) | (with_reducible refine cell_dr ?_))) <;> done))
            (first
              | (refine step_append_at _ (by rfl) (.tmp 41) (.tmp 55) 117 117 (by rfl) w.heap.size 116 ip (.agg #[.slice none 0 0, .slice none 0 0]) 2 48 Try.underlying117 hip hip0 hip1 hip2 rfl (.slice va (m + j) vc) (m + j) (peV (P' ++ Q)) (by rfl) hrowD (.slice (some ⟨w3.heap.size, 0, none⟩) 1 1) 1 [.slice p4 ni p6, .slice q4 ni q6] (by rfl) hsrcD 1 (.inr (by omega)) (Nat.le_refl _) (by unfold maxLen; omega) hbaD ?_; intro vb wb hOb hgb hat; have x0 := hgb.cell y0 ngX; have x1 := hgb.cell y1 ngX; have E10' := hgb.cell y2 ngb; have D10 := hgb.cell y3 ngb')
              | fail)
          have hsz3 : w.heap.size ≤ w3.heap.size := Nat.le_trans hwq hs3
          have hB3 : Below w.heap.size w3 wb := (((Below.refl w.heap.size w3).alloc hsz3 _).drew).grown hgb hbaD (fun k hk => (hgo k hk).1)
          have hBK : Below K w3 wb := hB3.mono hK
          have HO4 : Hid (OwnP wb w.heap.size vb (P' ++ (Q ++ [(⟨dd, ll[j].2⟩, .slice p4 ni p6, .slice q4 ni q6)]))) := by
            show OwnP _ _ _ _
            unfold OwnP
            rw [← List.append_assoc, List.length_append, peV_app, HL.out]
            exact hOb
          have HP4 : Hid (∀ p ∈ P' ++ (Q ++ [(⟨dd, ll[j].2⟩, .slice p4 ni p6, .slice q4 ni q6)]), PrOk A K wb p) := fun p hp => by
            rw [← List.append_assoc] at hp
            rcases List.mem_append.1 hp with hp | hp
            · exact ((HPQ.out p hp).on hw3).low hA hBK
            · have e : p = (⟨dd, ll[j].2⟩, .slice p4 ni p6, .slice q4 ni q6) := by simpa using hp
              rw [e]
              exact PrOk.low ⟨HIN.out.on hw3, HIN'.out.stay (kp_st _) (fun b hb hl => ⟨hb, hw3.block b hl (.inl hb)⟩)⟩ hA hBK
          have HZ4 : Hid (((Q ++ [((⟨dd, ll[j].2⟩, .slice p4 ni p6, .slice q4 ni q6) : PE)]).map peZ).sum = ((ll.take (j + 1)).map (fun t => szL dd t.2)).sum) := by
            show _ = _
            rw [List.map_append, List.sum_append, HZ.out, List.take_succ_eq_append_getElem hjl, List.map_append, List.sum_append]
            rfl
          have HI4 := mkHid ((HIw.out.trans hw3).low hB3)
          have HT4 : Hid (RdSh A K wb (dd + 1) ll (.slice (some ⟨b, off, none⟩) nl t3)) := (PrOk.low (p := (⟨dd + 1, ll⟩, .slice (some ⟨b, off, none⟩) nl t3, .slice (some ⟨b', off', none⟩) nl s3)) (PrOk.on ⟨HT'.out, HS'.out⟩ hw3) hA hBK).1
          have HS4 : Hid (RdK (fun b => b < A) wb 11 (rSt (dd + 1) (fun b => b < A) wb) ll (.slice (some ⟨b', off', none⟩) nl s3)) := (PrOk.low (p := (⟨dd + 1, ll⟩, .slice (some ⟨b, off, none⟩) nl t3, .slice (some ⟨b', off', none⟩) nl s3)) (PrOk.on ⟨HT'.out, HS'.out⟩ hw3) hA hBK).2
          have hX4 : Bn wb X [.slice (some ⟨b, off, none⟩) nl t3, .slice (some ⟨b', off', none⟩) nl s3] := (hX'.blk (hw3.block X hXr (.inr hXK))).blk ((hgb.block X (by show X < (w3.alloc _).heap.size; simp; omega) ngX).trans (Below.heap_alloc _ _ _ hX3l))
          have hno4 : vb.ownBlock ≠ some X := by
            rcases hat with h | h
            · rw [h]; exact hno
            · rw [h]
              intro e
              have : (w3.alloc (.cells #[.slice p4 ni p6, .slice q4 ni q6] 116)).heap.size = X := Option.some.inj e
              simp at this
              omega
          have HQ4 : Hid ((Q ++ [((⟨dd, ll[j].2⟩, .slice p4 ni p6, .slice q4 ni q6) : PE)]).length = j + 1) := by
            show _ = _
            rw [List.length_append, HQ.out]
            rfl
          (try simp only [List.getElem_toArray, List.getElem_cons_succ, List.getElem_cons_zero, List.set_cons_succ, List.set_cons_zero, List.setIfInBounds_toArray])
          clear hgb hOb x0 x1 E10' D10 hrow3 hrowD hsrcD hbaD y0 y1 y2 y3 HO2 HPQ HZ HIw HT' HS' hX' HIN HIN' hw3 hB3 hBK hat
          go_wp2
          go_roundw
          case rel => exact ⟨j + 1, _, hlt, by go_num, HQ4, HO4, HP4, HZ4, HI4, HT4, HS4, hX4, hno4⟩
          case measure => simp [RowKit.intOf]; omega
        · have i6 : ¬ (j : Int) < (nl : Int) := by omega
          have hjn : ll.take j = ll := List.take_of_length_le (by rw [HNL.out]; omega)
          have hsum : ((P' ++ Q).map peZ).sum + 1 = (P'.map peZ).sum + szL (dd + 1) ll := by
            rw [List.map_append, List.sum_append, HZ.out, hjn]
            show _ = _ + ((ll.map (fun t => szL dd t.2)).sum + 1)
            omega
          have hm2 := HM2.out
          clear hX' x0 x1
          go_wp2
          go_roundg (((P' ++ Q).map peZ).sum)
          case measure => omega
          case rel => exact ⟨P' ++ Q, by show OwnP _ _ _ _; unfold OwnP; rw [HL.out]; exact HO2.out, HPQ, ⟨Nat.le_refl _, by omega⟩, HIw⟩
theorem cpt_res {w4 : World} {R : Nat} {a b c d e f g h i j k : Value} {tmps : Array Value} (hR : Bn w4 R [a, b, c, d, e, f, g, h, i, j, k]) (ht : tmps.getD 2 undef = .pointer (some ⟨R, 0, none⟩)) : (results Try.f23 tmps).run Try.prog w4 = .ok (.agg #[a, b, c, d, e, f, g, h, i, j, k]) w4 := by
  have ht' : tmps[2]?.getD undef = .pointer (some ⟨R, 0, none⟩) := by simpa using ht
  have c0 := (hR 0 _ rfl).1
  have c1 := (hR 1 _ rfl).1
  have c2 := (hR 2 _ rfl).1
  have c3 := (hR 3 _ rfl).1
  have c4 := (hR 4 _ rfl).1
  have c5 := (hR 5 _ rfl).1
  have c6 := (hR 6 _ rfl).1
  have c7 := (hR 7 _ rfl).1
  have c8 := (hR 8 _ rfl).1
  have c9 := (hR 9 _ rfl).1
  have c10 := (hR 10 _ rfl).1
  simp [results, Try.results23, go_sem, ht', c0, c1, c2, c3, c4, c5, c6, c7, c8, c9, c10]
theorem fld_ch (a b c d e f : Value) (w : World) : (Instr.field 37 (.agg #[a, b, c, d, e, f]) 4).run Try.prog w = .ok f w := by kernel_rfl
/-- One state, as a chart's. -/
def oneC {d : Nat} (t : St (d + 1)) : ChG (d + 1) := (([], (0, 0)), 0, [], [t])
theorem oneC_ok {d : Nat} {t : St (d + 1)} (h : StOk (d + 1) t) (hz : szL (d + 1) [t] ≤ 1000000) : ChOk (d + 1) (oneC t) := by
  refine ⟨by simp [oneC], by simp [oneC], fun x hx => ?_, ⟨by simp [oneC], fun t' ht => ?_⟩, hz⟩
  · simp [oneC] at hx
  · have : t' = t := by simpa [oneC] using ht
    rw [this]
    exact h
set_option maxRecDepth 100000 in
set_option maxHeartbeats 16000000 in
theorem copiedT_any {ok : Nat → Prop} {w : World} {d : Nat} {t : St (d + 1)} {sn : ByteArray} {sl sc : Int} {sb se : Bool} {sd su : ByteArray} {sw sr : Int} {q1 : Option Addr} {no q3 : Nat} {q4 : Option Addr} {ni q6 : Nat}
    (hsv : ∀ so si, hdV t.1 so si = [.string sn, .int .i64 sl, .int .i64 sc, .bool sb, .bool se, .string sd, .string su, .int .i64 sw, .int .i64 sr, so, si])
    (hno : t.1.2.2.2.2.length = no) (hni : t.2.length = ni) (hon : RdK ok w 6 (rOn ok w) t.1.2.2.2.2 (.slice q1 no q3)) (hin : RdK ok w 11 (rSt d ok w) t.2 (.slice q4 ni q6)) (hst : StOk (d + 1) t) (hsz : szL (d + 1) [t] ≤ 1000000) :
    Calls Try.prog 23 #[.agg #[.string sn, .int .i64 sl, .int .i64 sc, .bool sb, .bool se, .string sd, .string su, .int .i64 sw, .int .i64 sr, .slice q1 no q3, .slice q4 ni q6]] w fun e w' => ∃ (i1 i2 : Int) (c3 c4 : Bool) (c5 c6 : ByteArray) (c7 c8 : Int) (u1 : Option Addr) (u3 : Nat) (u4 : Option Addr) (u6 : Nat), e = .returned (.agg #[.string sn, .int .i64 i1, .int .i64 i2, .bool c3, .bool c4, .string c5, .string c6, .int .i64 c7, .int .i64 c8, .slice u1 no u3, .slice u4 ni u6]) ∧ Below w.heap.size w w' := by
  have HSV := mkHid hsv
  have HOK := mkHid (oneC_ok hst hsz)
  have HON := mkHid hon
  have HIN := mkHid hin
  have HNO := mkHid hno
  have HNI := mkHid hni
  clear hsv hst hon hin hno hni
  obtain ⟨O, hO⟩ : ∃ O : Obj, Obj.cells #[.string sn, .int .i64 sl, .int .i64 sc, .bool sb, .bool se, .string sd, .string su, .int .i64 sw, .int .i64 sr, .slice q1 no q3, .slice q4 ni q6] 45 = O := ⟨_, rfl⟩
  have hb1 : Below w.heap.size w (w.alloc O) := (Below.refl w.heap.size w).alloc (Nat.le_refl _) _
  have hX : Bn (w.alloc O) w.heap.size [.string sn, .int .i64 sl, .int .i64 sc, .bool sb, .bool se, .string sd, .string su, .int .i64 sw, .int .i64 sr, .slice q1 no q3, .slice q4 ni q6] := by rw [← hO]; exact Bn.new w [.string sn, .int .i64 sl, .int .i64 sc, .bool sb, .bool se, .string sd, .string su, .int .i64 sw, .int .i64 sr, .slice q1 no q3, .slice q4 ni q6] 45 _ rfl
  have hb2 : Below w.heap.size w ((w.alloc O).alloc (.cells #[.string ⟨#[]⟩, .int .i64 0, .int .i64 0, .bool false, .bool false, .string ⟨#[]⟩, .string ⟨#[]⟩, .int .i64 0, .int .i64 0, .slice none 0 0, .slice none 0 0] 45)) := hb1.alloc (by simp) _
  have hX2 := hX.on ((Below.refl _ (w.alloc O)).alloc (Nat.le_refl _) (.cells #[.string ⟨#[]⟩, .int .i64 0, .int .i64 0, .bool false, .bool false, .string ⟨#[]⟩, .string ⟨#[]⟩, .int .i64 0, .int .i64 0, .slice none 0 0, .slice none 0 0] 45))
  have hR : Bn ((w.alloc O).alloc (.cells #[.string ⟨#[]⟩, .int .i64 0, .int .i64 0, .bool false, .bool false, .string ⟨#[]⟩, .string ⟨#[]⟩, .int .i64 0, .int .i64 0, .slice none 0 0, .slice none 0 0] 45)) (w.heap.size + 1) [.string ⟨#[]⟩, .int .i64 0, .int .i64 0, .bool false, .bool false, .string ⟨#[]⟩, .string ⟨#[]⟩, .int .i64 0, .int .i64 0, .slice none 0 0, .slice none 0 0] := Bn.new (w.alloc O) [.string ⟨#[]⟩, .int .i64 0, .int .i64 0, .bool false, .bool false, .string ⟨#[]⟩, .string ⟨#[]⟩, .int .i64 0, .int .i64 0, .slice none 0 0, .slice none 0 0] 45 _ (by simp)
  have hs2 : ((w.alloc O).alloc (.cells #[.string ⟨#[]⟩, .int .i64 0, .int .i64 0, .bool false, .bool false, .string ⟨#[]⟩, .string ⟨#[]⟩, .int .i64 0, .int .i64 0, .slice none 0 0, .slice none 0 0] 45)).heap.size = w.heap.size + 2 := by simp
  go_enter Try.func23, Try.ntmps23
  go_upto_region 1 with fail
  clear hO hb1 hX
  generalize ((w.alloc O).alloc (.cells #[.string ⟨#[]⟩, .int .i64 0, .int .i64 0, .bool false, .bool false, .string ⟨#[]⟩, .string ⟨#[]⟩, .int .i64 0, .int .i64 0, .slice none 0 0, .slice none 0 0] 45)) = w2 at *
  obtain ⟨x0, _⟩ := hX2 0 _ rfl
  obtain ⟨x1, _⟩ := hX2 1 _ rfl
  obtain ⟨x2, _⟩ := hX2 2 _ rfl
  obtain ⟨x3, _⟩ := hX2 3 _ rfl
  obtain ⟨x4, _⟩ := hX2 4 _ rfl
  obtain ⟨x5, _⟩ := hX2 5 _ rfl
  obtain ⟨x6, _⟩ := hX2 6 _ rfl
  obtain ⟨x7, _⟩ := hX2 7 _ rfl
  obtain ⟨x8, _⟩ := hX2 8 _ rfl
  obtain ⟨x9, _⟩ := hX2 9 _ rfl
  obtain ⟨x10, _⟩ := hX2 10 _ rfl
  go_upto_region 2 with fail
  have hb3 : Below w2.heap.size w2 (w2.alloc (.cells #[.string sn, .int .i64 sl, .int .i64 sc, .bool sb, .bool se, .string sd, .string su, .int .i64 sw, .int .i64 sr, .slice q1 no q3, .slice q4 ni q6] 45)) := (Below.refl _ _).alloc (Nat.le_refl _) _
  have hG : Bn (w2.alloc (.cells #[.string sn, .int .i64 sl, .int .i64 sc, .bool sb, .bool se, .string sd, .string su, .int .i64 sw, .int .i64 sr, .slice q1 no q3, .slice q4 ni q6] 45)) w2.heap.size [.string sn, .int .i64 sl, .int .i64 sc, .bool sb, .bool se, .string sd, .string su, .int .i64 sw, .int .i64 sr, .slice q1 no q3, .slice q4 ni q6] := Bn.new w2 [.string sn, .int .i64 sl, .int .i64 sc, .bool sb, .bool se, .string sd, .string su, .int .i64 sw, .int .i64 sr, .slice q1 no q3, .slice q4 ni q6] 45 _ rfl
  have hR3 := hR.on hb3
  have hs3 : (w2.alloc (.cells #[.string sn, .int .i64 sl, .int .i64 sc, .bool sb, .bool se, .string sd, .string su, .int .i64 sw, .int .i64 sr, .slice q1 no q3, .slice q4 ni q6] 45)).heap.size = w.heap.size + 3 := by simp [hs2]
  have hbw : Below w.heap.size w (w2.alloc (.cells #[.string sn, .int .i64 sl, .int .i64 sc, .bool sb, .bool se, .string sd, .string su, .int .i64 sw, .int .i64 sr, .slice q1 no q3, .slice q4 ni q6] 45)) := hb2.trans (hb3.mono (by omega))
  rw [hs2] at hG
  clear x0 x1 x2 x3 x4 x5 x6 x7 x8 x9 x10 hX2 hR hb2 hb3
  generalize (w2.alloc (.cells #[.string sn, .int .i64 sl, .int .i64 sc, .bool sb, .bool se, .string sd, .string su, .int .i64 sw, .int .i64 sr, .slice q1 no q3, .slice q4 ni q6] 45)) = w3 at *
  have HRow : Hid (RdK (fun b => b < w3.heap.size) w3 11 (rSt (d + 1) (fun b => b < w3.heap.size) w3) [t] (.slice (some ⟨w.heap.size + 2, 0, none⟩) 1 1)) := by
    refine ⟨some ⟨w.heap.size + 2, 0, none⟩, 1, rfl, by simp, by simp [maxLen], fun i hi => ?_⟩
    have hi0 : i = 0 := by simp at hi; omega
    subst hi0
    refine ⟨w.heap.size + 2, 0, hdV t.1 (.slice q1 no q3) (.slice q4 ni q6), rfl, by show _ < _; omega, by omega, rfl, ⟨_, _, rfl, ?_, ?_⟩, fun j u hu => ?_⟩
    · exact HON.out.stay kp_on (fun b hb hl => ⟨by show b < _; omega, hbw.block b hl⟩)
    · exact HIN.out.stay (kp_st d) (fun b hb hl => ⟨by show b < _; omega, hbw.block b hl⟩)
    · rw [HSV.out] at hu
      have := (hG j u hu).1
      simpa using this
  have hcall : Calls Try.prog 33 #[.agg #[.string ⟨#[]⟩, .int .i64 0, .int .i64 0, .int .i64 0, .slice none 0 0, .slice (some ⟨w.heap.size + 2, 0, none⟩) 1 1]] w3 fun e w' => ∃ n0 n1 n2 n3 n4 n5 n6 fa fc, e = .returned (.agg #[.string n0, .int .i64 n1, .int .i64 n2, .int .i64 n3, .slice n4 n5 n6, .slice fa 1 fc]) ∧ Hid (RdSh w3.heap.size w'.heap.size w' (d + 1) [t] (.slice fa 1 fc)) ∧ Below w3.heap.size w3 w' := by
    refine (strip_nw (c := oneC t) (ok := fun b => b < w3.heap.size) (w := w3) ⟨_, _, rfl, rdK_none _ _ _ _, HRow.out⟩ HOK.out).mono ?_
    rintro e w' ⟨u, rfl, ⟨sv, ss, rfl, h1, h2⟩, hb⟩
    obtain ⟨v1, v3, rfl, _⟩ := h1.form
    obtain ⟨f1, f3, rfl, _⟩ := h2.form
    exact ⟨_, _, _, _, _, _, _, f1, f3, rfl, rdSh_of h2, hb⟩
  have hfl := fld_ch
  go_upto_region 3 with (first
    | (go_at_call 33; refine hcall.mono ?_; rintro e w4 ⟨n0, n1, n2, n3, n4, n5, n6, fa, fc, rfl, HF, b4⟩)
    | fail)
  clear hfl
  have hput : Calls Try.prog 34 #[.slice fa 1 fc, .slice (some ⟨w.heap.size + 2, 0, none⟩) 1 1] w4 fun e w' => (∃ v, e = .returned v) ∧ Iw w3.heap.size w4.heap.size w4 w' := putPlaces_any (l := [t]) b4.size (Nat.le_refl _) ⟨HF.out, HRow.out.stay (kp_st _) (fun b hb hl => ⟨hb, b4.block b hb⟩)⟩ hsz
  go_upto_region 4 with (first
    | (go_at_call 34; refine hput.mono ?_; rintro e w5 ⟨⟨v5, rfl⟩, h5⟩)
    | fail)
  obtain ⟨b, off, i1, i2, c3, c4, c5, c6, c7, c8, p1, p3, p4, p6, rfl, hbA, hbK, hbl, hbf, _, _, hc⟩ := sh_at (HF.out.on h5) 0 (by simp)
  have e0 : sV ([t] : List (St (d + 1)))[0].1.1.1 = .string sn := by
    have := HSV.out (.nilIface) (.nilIface)
    exact (List.cons.inj this).1
  have e1 : ([t] : List (St (d + 1)))[0].1.2.2.2.2.length = no := HNO.out
  have e2 : ([t] : List (St (d + 1)))[0].2.length = ni := HNI.out
  rw [e0, e1, e2] at hc
  simp only [Nat.zero_mul, Nat.add_zero] at hc
  have hR5 := (hR3.on b4).blk (h5.block (w.heap.size + 1) (by have := b4.size; omega) (.inl (by omega)))
  have hbw5 : Below w.heap.size w w5 := (hbw.trans (b4.mono (by omega))).trans ((h5.below b4.size).mono (by omega))
  have D0 := hc 0 _ rfl
  have D1 := hc 1 _ rfl
  have D2 := hc 2 _ rfl
  have D3 := hc 3 _ rfl
  have D4 := hc 4 _ rfl
  have D5 := hc 5 _ rfl
  have D6 := hc 6 _ rfl
  have D7 := hc 7 _ rfl
  have D8 := hc 8 _ rfl
  have D9 := hc 9 _ rfl
  have D10 := hc 10 _ rfl
  rw [Nat.add_zero] at D0
  obtain ⟨r0, f0⟩ := hR5 0 _ rfl
  obtain ⟨r1, f1⟩ := hR5 1 _ rfl
  obtain ⟨r2, f2⟩ := hR5 2 _ rfl
  obtain ⟨r3, f3⟩ := hR5 3 _ rfl
  obtain ⟨r4, f4⟩ := hR5 4 _ rfl
  obtain ⟨r5, f5⟩ := hR5 5 _ rfl
  obtain ⟨r6, f6⟩ := hR5 6 _ rfl
  obtain ⟨r7, f7⟩ := hR5 7 _ rfl
  obtain ⟨r8, f8⟩ := hR5 8 _ rfl
  obtain ⟨r9, f9⟩ := hR5 9 _ rfl
  obtain ⟨r10, f10⟩ := hR5 10 _ rfl
  have hRz := ((((((((((hR5.set (i := 0) (by simp) (.string sn)).set (i := 1) (by simp) (.int .i64 i1)).set (i := 2) (by simp) (.int .i64 i2)).set (i := 3) (by simp) (.bool c3)).set (i := 4) (by simp) (.bool c4)).set (i := 5) (by simp) (.string c5)).set (i := 6) (by simp) (.string c6)).set (i := 7) (by simp) (.int .i64 c7)).set (i := 8) (by simp) (.int .i64 c8)).set (i := 9) (by simp) (.slice p1 no p3)).set (i := 10) (by simp) (.slice p4 ni p6)
  have hbz := putL_below [.string sn, .int .i64 i1, .int .i64 i2, .bool c3, .bool c4, .string c5, .string c6, .int .i64 c7, .int .i64 c8, .slice p1 no p3, .slice p4 ni p6] w5 (w.heap.size + 1) 0 hbw5 (by omega)
  clear hput hcall HF HRow h5 hc b4 hbw
  go_wp2
  exact bodyPost_ret (cpt_res hRz rfl) rfl ⟨i1, i2, c3, c4, c5, c6, c7, c8, p1, p3, p4, p6, rfl, hbz⟩
end Go.Proofs.Ytoankfbccofllaa

/- The program's State: the state of a number, in new memory. -/
namespace Go.Proofs.Ytoankfbccofllaa
open Go.RowKit Go.Lib Go.Shelf
set_option linter.unusedSimpArgs false
set_option linter.unusedVariables false
attribute [local go_sem] Oper.semAt_some
theorem flM_ok : ∀ (d k : Nat) (l : List (St d)), (∀ t ∈ l, StOk d t) → ∀ y ∈ flM d k l, StOk y.2.1 y.2.2
  | 0, k, l, _, y, hy => by simp [flM] at hy
  | d + 1, k, l, h, y, hy => by
    simp only [flM, List.mem_flatMap, List.mem_cons] at hy
    obtain ⟨t, ht, rfl | hy⟩ := hy
    · exact h t ht
    · exact flM_ok d (k + 1) t.2 (fun x hx => (h t ht).2.2 x hx) y hy
theorem sum_mem {α : Type} (f : α → Nat) : ∀ (l : List α) (x : α), x ∈ l → f x ≤ (l.map f).sum
  | [], x, h => by cases h
  | y :: l, x, h => by
    rcases List.mem_cons.1 h with rfl | h
    · simp
    · have := sum_mem f l x h
      simp only [List.map_cons, List.sum_cons]
      omega
def oneZ : SgS → Nat
  | ⟨0, _⟩ => 0
  | ⟨e + 1, t⟩ => szL (e + 1) [t]
theorem flM_sz : ∀ (d k : Nat) (l : List (St d)), ∀ y ∈ flM d k l, oneZ y.2 ≤ szL d l
  | 0, k, l, y, hy => by simp [flM] at hy
  | d + 1, k, l, y, hy => by
    simp only [flM, List.mem_flatMap, List.mem_cons] at hy
    obtain ⟨t, ht, rfl | hy⟩ := hy
    · show szL d t.2 + 0 + 1 ≤ (l.map (fun t => szL d t.2)).sum + 1
      have : szL d t.2 ≤ (l.map (fun t => szL d t.2)).sum := sum_mem (fun t : St (d + 1) => szL d t.2) l t ht
      omega
    · have h1 := flM_sz d (k + 1) t.2 y hy
      have h2 : szL d t.2 ≤ (l.map (fun t => szL d t.2)).sum := sum_mem (fun t : St (d + 1) => szL d t.2) l t ht
      show _ ≤ (l.map (fun t => szL d t.2)).sum + 1
      omega
theorem stt_res {w4 : World} {R R' : Nat} {a b c d e f g h i j k : Value} {q : Bool} {tmps : Array Value} (hR : Bn w4 R [a, b, c, d, e, f, g, h, i, j, k]) (hR' : Bn w4 R' [.bool q]) (ht : tmps.getD 4 undef = .pointer (some ⟨R, 0, none⟩)) (ht2 : tmps.getD 5 undef = .pointer (some ⟨R', 0, none⟩)) : (results Try.f13 tmps).run Try.prog w4 = .ok (.tuple #[.agg #[a, b, c, d, e, f, g, h, i, j, k], .bool q]) w4 := by
  have ht' : tmps[4]?.getD undef = .pointer (some ⟨R, 0, none⟩) := by simpa using ht
  have ht2' : tmps[5]?.getD undef = .pointer (some ⟨R', 0, none⟩) := by simpa using ht2
  have c0 := (hR 0 _ rfl).1
  have c1 := (hR 1 _ rfl).1
  have c2 := (hR 2 _ rfl).1
  have c3 := (hR 3 _ rfl).1
  have c4 := (hR 4 _ rfl).1
  have c5 := (hR 5 _ rfl).1
  have c6 := (hR 6 _ rfl).1
  have c7 := (hR 7 _ rfl).1
  have c8 := (hR 8 _ rfl).1
  have c9 := (hR 9 _ rfl).1
  have c10 := (hR 10 _ rfl).1
  have d0 := (hR' 0 _ rfl).1
  simp [results, Try.results13, go_sem, ht', ht2', c0, c1, c2, c3, c4, c5, c6, c7, c8, c9, c10, d0]
/-- What is told of a state: its name, how many ons, how many right in it. -/
def tlS (x : SgS) (v : Value) : Prop := match x with
  | ⟨0, _⟩ => False
  | ⟨_ + 1, t⟩ => ∃ (i1 i2 : Int) (c3 c4 : Bool) (c5 c6 : ByteArray) (c7 c8 : Int) (u1 : Option Addr) (u3 : Nat) (u4 : Option Addr) (u6 : Nat), v = .agg #[.string ⟨t.1.1.1.toArray⟩, .int .i64 i1, .int .i64 i2, .bool c3, .bool c4, .string c5, .string c6, .int .i64 c7, .int .i64 c8, .slice u1 t.1.2.2.2.2.length u3, .slice u4 t.2.length u6]
def zSt : List Value := [.string ⟨#[]⟩, .int .i64 0, .int .i64 0, .bool false, .bool false, .string ⟨#[]⟩, .string ⟨#[]⟩, .int .i64 0, .int .i64 0, .slice none 0 0, .slice none 0 0]
def SI (w : World) (i0 : Nat) (pre : List Fx3) (o : Nat → Prop) (W : World) : Prop :=
  ∃ j : Nat, pre.length + j = i0 ∧ Bn W (w.heap.size + 1) [.int .i64 (j : Int)] ∧ Bn W (w.heap.size + 2) zSt ∧ Bn W (w.heap.size + 3) [.bool false] ∧ (∀ k, o k ↔ (k = w.heap.size + 1 ∨ k = w.heap.size + 2 ∨ k = w.heap.size + 3)) ∧ w.heap.size + 5 ≤ W.heap.size ∧ Below w.heap.size w W
def SA (w : World) (i0 : Nat) (T : Fx3 → Nat → Array Value) (pre : List Fx3) (x : Fx3) (a' : Act) (o : Nat → Prop) (W : World) : Prop :=
  ∃ (j Bs : Nat), pre.length + j = i0 ∧ Bn W (w.heap.size + 1) [.int .i64 (j : Int)] ∧ Bn W (w.heap.size + 2) zSt ∧ Bn W (w.heap.size + 3) [.bool false] ∧ (∀ k, o k ↔ (k = w.heap.size + 1 ∨ k = w.heap.size + 2 ∨ k = w.heap.size + 3 ∨ k = Bs)) ∧ w.heap.size + 5 ≤ W.heap.size ∧ Below w.heap.size w W ∧ w.heap.size + 5 ≤ Bs ∧ Bs < W.heap.size ∧ Bn W Bs x.2.2 ∧ a' = { tmps := T x Bs, defers := [] }
def SX (w : World) (i0 : Nat) (c : Code) (pre : List Fx3) (o : Nat → Prop) (W : World) : Prop :=
  c = .ret ∧ ∃ p x a b c d e f g h i j k, pre = p ++ [x] ∧ p.length = i0 ∧ Hid (tlS x.2.1 (.agg #[a, b, c, d, e, f, g, h, i, j, k])) ∧ Bn W (w.heap.size + 2) [a, b, c, d, e, f, g, h, i, j, k] ∧ Bn W (w.heap.size + 3) [.bool true] ∧ o (w.heap.size + 2) ∧ o (w.heap.size + 3) ∧ w.heap.size + 5 ≤ W.heap.size ∧ Below w.heap.size w W
theorem sI_len {w : World} {i0 : Nat} {s : List Fx3} {o : Nat → Prop} {A : World} (h : SI w i0 s o A) : ∀ k, o k → k < A.heap.size ∧ w.heap.size ≤ k := by
  obtain ⟨j, h1, h2, h3, h4, h5, h6, h7⟩ := h
  intro k hk
  rcases (h5 k).1 hk with rfl | rfl | rfl <;> omega
theorem sI_stb (w : World) (i0 : Nat) : Stb w.heap.size (SI w i0) := by
  rintro s o A B ⟨j, h1, h2, h3, h4, h5, h6, h7⟩ hs
  exact ⟨j, h1, bn_keep h2 hs (.inr ((h5 _).2 (.inl rfl))), bn_keep h3 hs (.inr ((h5 _).2 (.inr (.inl rfl)))), bn_keep h4 hs (.inr ((h5 _).2 (.inr (.inr rfl)))), h5, Nat.le_trans h6 hs.size, h7.trans (hs.below h7.size (fun i hi => .inl hi))⟩
theorem sA_stb (w : World) (i0 : Nat) (T : Fx3 → Nat → Array Value) (pre : List Fx3) (x : Fx3) (a' : Act) : Stb w.heap.size (fun (_ : Unit) => SA w i0 T pre x a') := by
  rintro _ o A B ⟨j, Bs, h1, h2, h3, h4, h5, h6, h7, h8, h9, h10, h11⟩ hs
  exact ⟨j, Bs, h1, bn_keep h2 hs (.inr ((h5 _).2 (.inl rfl))), bn_keep h3 hs (.inr ((h5 _).2 (.inr (.inl rfl)))), bn_keep h4 hs (.inr ((h5 _).2 (.inr (.inr (.inl rfl))))), h5, Nat.le_trans h6 hs.size, h7.trans (hs.below h7.size (fun i hi => .inl hi)), h8, Nat.lt_of_lt_of_le h9 hs.size, h10.blk (hs.block Bs h9 (.inr ((h5 _).2 (.inr (.inr (.inr rfl)))))), h11⟩
theorem sX_stb (w : World) (i0 : Nat) (c : Code) : Stb w.heap.size (SX w i0 c) := by
  rintro s o A B ⟨h0, p, x, a, b, c, d, e, f, g, h, i, j, k, h1, h2, h3, h4, h5, h6, h7, h8, h9⟩ hs
  exact ⟨h0, p, x, a, b, c, d, e, f, g, h, i, j, k, h1, h2, h3, bn_keep h4 hs (.inr h6), bn_keep h5 hs (.inr h7), h6, h7, Nat.le_trans h8 hs.size, h9.trans (hs.below h9.size (fun i hi => .inl hi))⟩
theorem Sm.putL {K : Nat → Prop} {G : Nat} (hK : ¬ K G) : ∀ (cs : List Value) (A : World) (o : Nat), Sm K A (putL A G o cs)
  | [], A, _ => Sm.refl _ _
  | c :: cs, A, o => (Sm.setCell K A ⟨G, o, none⟩ c hK).trans (Sm.putL hK cs _ _) (fun _ _ h => h)
theorem flX_cells {ok : Nat → Prop} {w : World} {d : Nat} {l : List (St d)} {v : Value} (h : RdK ok w 11 (rSt d ok w) l v) {x : Fx3} (hx : x ∈ flX w d 0 l v) :
    ∃ (k e : Nat) (t : St (e + 1)) (sn : ByteArray) (sl sc : Int) (sb se : Bool) (sd su : ByteArray) (sw sr : Int) (oa : Option Addr) (no oc : Nat) (ia : Option Addr) (ni ic : Nat), x = (k, ⟨e + 1, t⟩, [.string sn, .int .i64 sl, .int .i64 sc, .bool sb, .bool se, .string sd, .string su, .int .i64 sw, .int .i64 sr, .slice oa no oc, .slice ia ni ic]) ∧
      Hid (∀ so si, hdV t.1 so si = [.string sn, .int .i64 sl, .int .i64 sc, .bool sb, .bool se, .string sd, .string su, .int .i64 sw, .int .i64 sr, so, si]) ∧ Hid (t.1.2.2.2.2.length = no ∧ t.2.length = ni ∧ sn = ⟨t.1.1.1.toArray⟩) ∧ Hid (RdK ok w 6 (rOn ok w) t.1.2.2.2.2 (.slice oa no oc)) ∧ Hid (RdK ok w 11 (rSt e ok w) t.2 (.slice ia ni ic)) := by
  have hr := flX_rd d 0 l v h x hx
  obtain ⟨k, ⟨e, t⟩, cs⟩ := x
  cases e with
  | zero => exact Empty.elim t
  | succ e =>
    obtain ⟨so, si, he, h1, h2⟩ := hr
    obtain ⟨oa, oc, rfl, _, _⟩ := h1.form
    obtain ⟨ia, ic, rfl, _, _⟩ := h2.form
    refine ⟨k, e, t, ⟨t.1.1.1.toArray⟩, t.1.1.2.1, t.1.1.2.2, t.1.2.1.1, t.1.2.1.2, ⟨t.1.2.2.1.1.toArray⟩, ⟨t.1.2.2.1.2.toArray⟩, t.1.2.2.2.1.1, t.1.2.2.2.1.2, oa, _, oc, ia, _, ic, ?_, fun _ _ => rfl, ⟨rfl, rfl, rfl⟩, h1, h2⟩
    simp only at he
    rw [he]
    rfl
set_option maxRecDepth 100000 in
set_option maxHeartbeats 8000000 in
theorem stateT_any {ok : Nat → Prop} {w : World} {d : Nat} {c : ChG d} {v : Value} (h : RdC ok w d c v) (hok : ∀ b, ok b → b < w.heap.size) (hlen : (flM d 0 c.2.2.2).length ≤ 1000000) (hst : ∀ t ∈ c.2.2.2, StOk d t) (hsz : szL d c.2.2.2 ≤ 1000000) (i0 : Nat) (hi63 : i0 < 9223372036854775808) :
    Calls Try.prog 13 #[v, .int .i64 (i0 : Int)] w fun e w' => ∃ a b c3 d3 e3 f g h i j k q, e = .returned (.tuple #[.agg #[a, b, c3, d3, e3, f, g, h, i, j, k], .bool q]) ∧ ((q = true ∧ ∃ hi : i0 < (flM d 0 c.2.2.2).length, tlS ((flM d 0 c.2.2.2)[i0]).2 (.agg #[a, b, c3, d3, e3, f, g, h, i, j, k])) ∨ (q = false ∧ (flM d 0 c.2.2.2).length ≤ i0 ∧ [a, b, c3, d3, e3, f, g, h, i, j, k] = zSt)) ∧ Below w.heap.size w w' := by
  obtain ⟨sv, ss, rfl, hvv, hss⟩ := h
  obtain ⟨va, vc, rfl, hv1, hv2⟩ := hvv.form
  obtain ⟨sa, sc, rfl, hs1, hs2⟩ := hss.form
  unfold maxLen at hv2 hs2
  have HR := hidOf hss
  clear hvv hss
  refine (callsIn_wide (n := 5)).1 ?_
  refine callsIn_of_wp_marks Try.func13 rfl trivial ?_ rfl
  simp only [Try.ntmps13, List.size_toArray, List.length_cons, List.length_nil, Nat.reduceAdd, Nat.reduceSub, Array.replicate_succ, Array.replicate_zero, List.push_toArray, List.append_toArray, List.nil_append, List.cons_append]
  have i1 : ¬ ((i0 : Int) < 0) := by omega
  gi_wp2_with (refine ⟨trivial, ?_⟩; gi_at_call 18; refine (states_in Fence.wide _ trivial rfl _ _ _ _ _ _ _).mono ?_; rintro e w' ⟨rfl, rfl⟩)
  obtain ⟨W5, hW5⟩ : ∃ W5, ((((w.alloc (.cells #[sV c.1.1, .int .i64 c.2.1, .int .i64 c.1.2.1, .int .i64 c.1.2.2, .slice va c.2.2.1.length vc, .slice sa c.2.2.2.length sc] 37)).alloc (.cells #[.int .i64 (i0 : Int)] 3)).alloc (.cells #[.string ⟨#[]⟩, .int .i64 0, .int .i64 0, .bool false, .bool false, .string ⟨#[]⟩, .string ⟨#[]⟩, .int .i64 0, .int .i64 0, .slice none 0 0, .slice none 0 0] 45)).alloc (.cells #[.bool false] 4)).alloc (.cells #[sV c.1.1, .int .i64 c.2.1, .int .i64 c.1.2.1, .int .i64 c.1.2.2, .slice va c.2.2.1.length vc, .slice sa c.2.2.2.length sc] 37) = W5 := ⟨_, rfl⟩
  have hsz5 : W5.heap.size = w.heap.size + 5 := by rw [← hW5]; simp
  have hB : Below w.heap.size w W5 := by rw [← hW5]; exact (((((Below.refl _ w).alloc (Nat.le_refl _) _).alloc (by simp) _).alloc (by simp; omega) _).alloc (by simp; omega) _).alloc (by simp; omega) _
  have hX : W5.cell? ⟨w.heap.size + 1 + 1 + 1 + 1, 5, none⟩ = some (.slice sa c.2.2.2.length sc) := by rw [← hW5]; exact ((Bn.new _ [sV c.1.1, .int .i64 c.2.1, .int .i64 c.1.2.1, .int .i64 c.1.2.2, .slice va c.2.2.1.length vc, .slice sa c.2.2.2.length sc] 37 (w.heap.size + 1 + 1 + 1 + 1) (by simp)) 5 _ rfl).1
  have hR1 : Bn W5 (w.heap.size + 1) [.int .i64 (i0 : Int)] := by
    rw [← hW5]
    exact (((Bn.new _ [.int .i64 (i0 : Int)] 3 (w.heap.size + 1) (by simp)).on ((Below.refl _ _).alloc (Nat.le_refl _) _)).on ((Below.refl _ _).alloc (Nat.le_refl _) _)).on ((Below.refl _ _).alloc (Nat.le_refl _) _)
  have hR2 : Bn W5 (w.heap.size + 2) zSt := by
    rw [← hW5]
    exact ((Bn.new _ zSt 45 (w.heap.size + 2) (by simp)).on ((Below.refl _ _).alloc (Nat.le_refl _) _)).on ((Below.refl _ _).alloc (Nat.le_refl _) _)
  have hR3 : Bn W5 (w.heap.size + 3) [.bool false] := by
    rw [← hW5]
    exact (Bn.new _ [.bool false] 4 (w.heap.size + 3) (by simp)).on ((Below.refl _ _).alloc (Nat.le_refl _) _)
  rw [hW5]
  clear hW5
  have hrd5 : RdK ok W5 11 (rSt d ok W5) c.2.2.2 (.slice sa c.2.2.2.length sc) := HR.out.stay (kp_st d) (fun b hb hl => ⟨hb, hB.block b (hok b hb)⟩)
  have hlen5 : (flX W5 d 0 c.2.2.2 (.slice sa c.2.2.2.length sc)).length ≤ 1000000 := by rw [← List.length_map (f := fun x : Fx3 => (x.1, x.2.1)), flX_map]; exact hlen
  have HM := hidOf (flX_map W5 d 0 c.2.2.2 (.slice sa c.2.2.2.length sc))
  refine wpIn_rangeFunc_st rfl (by omega) (gf := 30) (lb := #[.pointer (some ⟨w.heap.size + 1 + 1 + 1 + 1, 0, none⟩)]) rfl trivial (enters_of Try.func30 (by kernel_rfl) rfl)
    (states_owns (F := Fence.wide) (n := 5 - 1) trivial rfl (by omega) (ok := ok) hX hok (by omega) hrd5 hlen5) (Below.refl _ _) (m := w.heap.size) (by omega) (fun _ => rfl)
    (SI w i0) (SA w i0 (fun x Bs => #[.agg #[sV c.1.1, .int .i64 c.2.1, .int .i64 c.1.2.1, .int .i64 c.1.2.2, .slice va c.2.2.1.length vc, .slice sa c.2.2.2.length sc], .int .i64 (i0 : Int), .pointer (some ⟨w.heap.size, 0, none⟩), .pointer (some ⟨w.heap.size + 1, 0, none⟩), .pointer (some ⟨w.heap.size + 1 + 1, 0, none⟩), .pointer (some ⟨w.heap.size + 1 + 1 + 1, 0, none⟩), undef, .pointer (some ⟨Bs, 0, none⟩), .int .i64 (i0 : Int), .bool false, undef,
      .agg #[sV c.1.1, .int .i64 c.2.1, .int .i64 c.1.2.1, .int .i64 c.1.2.2, .slice va c.2.2.1.length vc, .slice sa c.2.2.2.length sc], .func (.func 30) #[] #[.pointer (some ⟨w.heap.size + 1 + 1 + 1 + 1, 0, none⟩)], .int .i64 (x.1 : Int), .agg x.2.2.toArray, undef, undef, undef, undef, undef, undef, undef])) (SX w i0)
    (fun s o A h => sI_len h) (sI_stb w i0) (fun pre x a' => sA_stb w i0 _ pre x a') (sX_stb w i0) (fun k => k = w.heap.size + 1 ∨ k = w.heap.size + 2 ∨ k = w.heap.size + 3) ?h0 ?assign ?body ?done ?stop
  case h0 => exact ⟨i0, by simp, hR1, hR2, hR3, fun k => Iff.rfl, by omega, hB⟩
  case assign =>
    rintro l pre x rest o W K hxs ⟨j, h1, h2, h3, h4, h5, h6, h7⟩ hK
    obtain ⟨k, e, t, sn, sl, sc', sb, se, sd, su, sw, sr, oa, no, oc, ia, ni, ic, rfl, _⟩ := flX_cells hrd5 (x := x) (by rw [hxs]; simp)
    simp only [encS]
    gi_wp2
    have hal : Below W.heap.size W (W.alloc (.cells #[.string sn, .int .i64 sl, .int .i64 sc', .bool sb, .bool se, .string sd, .string su, .int .i64 sw, .int .i64 sr, .slice oa no oc, .slice ia ni ic] 45)) := (Below.refl _ _).alloc (Nat.le_refl _) _
    refine hK _ (fun k => o k ∨ k = W.heap.size) _ ⟨Sm.alloc _ _ _, fun k hk => hk.imp id (fun e => Nat.le_of_eq e.symm)⟩ ⟨j, W.heap.size, h1, h2.on hal, h3.on hal, h4.on hal, fun k => ?_, Nat.le_trans h6 hal.size, h7.trans (hal.mono h7.size), h6, by simp, Bn.new W _ _ _ rfl, rfl⟩
    show (o k ∨ k = W.heap.size) ↔ _
    rw [h5 k, or_assoc, or_assoc]
  case body =>
    rintro l pre x rest a' o W hxs ⟨j, Bs, h1, h2, h3, h4, h5, h6, h7, h8, h9, h10, rfl⟩
    obtain ⟨k, e, t, sn, sl, sc', sb, se, sd, su, sw, sr, oa, no, oc, ia, ni, ic, rfl, HV, HNN, HON, HIN⟩ := flX_cells hrd5 (x := x) (by rw [hxs]; simp)
    have hmem : (k, (⟨e + 1, t⟩ : SgS)) ∈ flM d 0 c.2.2.2 := by
      rw [← HM.out, hxs]
      simp
    have hok1 : StOk (e + 1) t := flM_ok d 0 c.2.2.2 hst _ hmem
    have hsz1 : szL (e + 1) [t] ≤ 1000000 := Nat.le_trans (flM_sz d 0 c.2.2.2 _ hmem) hsz
    have HXS := hidOf hxs
    clear hxs hmem
    obtain ⟨cj, fj⟩ := h2 0 _ rfl
    dsimp only
    cases j with
    | zero =>
      have q0 := (h10 0 _ rfl).1
      have q1 := (h10 1 _ rfl).1
      have q2 := (h10 2 _ rfl).1
      have q3 := (h10 3 _ rfl).1
      have q4 := (h10 4 _ rfl).1
      have q5 := (h10 5 _ rfl).1
      have q6 := (h10 6 _ rfl).1
      have q7 := (h10 7 _ rfl).1
      have q8 := (h10 8 _ rfl).1
      have q9 := (h10 9 _ rfl).1
      have q10 := (h10 10 _ rfl).1
      have hcop : ∀ n, CallsIn (Fence.wide.inRound l) n Try.prog 23 #[.agg #[.string sn, .int .i64 sl, .int .i64 sc', .bool sb, .bool se, .string sd, .string su, .int .i64 sw, .int .i64 sr, .slice oa no oc, .slice ia ni ic]] W fun e w' => ∃ (i1 i2 : Int) (c3 c4 : Bool) (c5 c6 : ByteArray) (c7 c8 : Int) (u1 : Option Addr) (u3 : Nat) (u4 : Option Addr) (u6 : Nat), e = .returned (.agg #[.string sn, .int .i64 i1, .int .i64 i2, .bool c3, .bool c4, .string c5, .string c6, .int .i64 c7, .int .i64 c8, .slice u1 no u3, .slice u4 ni u6]) ∧ Below W.heap.size W w' := fun n => CallsIn.inRound l (callsIn_wide.2 (copiedT_any (ok := ok) HV.out HNN.out.1 HNN.out.2.1 (HON.out.stay kp_on (fun b hb hl => ⟨hb, ((h7.block b (hok b hb)).trans (hB.block b (hok b hb)).symm)⟩)) (HIN.out.stay (kp_st e) (fun b hb hl => ⟨hb, ((h7.block b (hok b hb)).trans (hB.block b (hok b hb)).symm)⟩)) hok1 hsz1))
      have hz0 : ((0 : Nat) : Int) = 0 := rfl
      rw [hz0] at cj
      gi_wp2_with (first
        | (refine ⟨trivial, ?_⟩; gi_at_call 23; refine (hcop _).mono ?_; rintro e wa ⟨i1, i2, c3, c4, c5, c6, c7, c8, u1, u3, u4, u6, rfl, b3⟩; have hRa := h3.on b3; have hRb := h4.on b3; obtain ⟨r0, g0⟩ := hRa 0 _ rfl; obtain ⟨r1, g1⟩ := hRa 1 _ rfl; obtain ⟨r2, g2⟩ := hRa 2 _ rfl; obtain ⟨r3, g3⟩ := hRa 3 _ rfl; obtain ⟨r4, g4⟩ := hRa 4 _ rfl; obtain ⟨r5, g5⟩ := hRa 5 _ rfl; obtain ⟨r6, g6⟩ := hRa 6 _ rfl; obtain ⟨r7, g7⟩ := hRa 7 _ rfl; obtain ⟨r8, g8⟩ := hRa 8 _ rfl; obtain ⟨r9, g9⟩ := hRa 9 _ rfl; obtain ⟨r10, g10⟩ := hRa 10 _ rfl; obtain ⟨k0, m0⟩ := hRb 0 _ rfl)
        | (gi_at_call 23; refine (hcop _).mono ?_; rintro e wa ⟨i1, i2, c3, c4, c5, c6, c7, c8, u1, u3, u4, u6, rfl, b3⟩; have hRa := h3.on b3; have hRb := h4.on b3; obtain ⟨r0, g0⟩ := hRa 0 _ rfl; obtain ⟨r1, g1⟩ := hRa 1 _ rfl; obtain ⟨r2, g2⟩ := hRa 2 _ rfl; obtain ⟨r3, g3⟩ := hRa 3 _ rfl; obtain ⟨r4, g4⟩ := hRa 4 _ rfl; obtain ⟨r5, g5⟩ := hRa 5 _ rfl; obtain ⟨r6, g6⟩ := hRa 6 _ rfl; obtain ⟨r7, g7⟩ := hRa 7 _ rfl; obtain ⟨r8, g8⟩ := hRa 8 _ rfl; obtain ⟨r9, g9⟩ := hRa 9 _ rfl; obtain ⟨r10, g10⟩ := hRa 10 _ rfl; obtain ⟨k0, m0⟩ := hRb 0 _ rfl)
        | fail)
      have hRz : Bn (putL wa (w.heap.size + 2) 0 [.string sn, .int .i64 i1, .int .i64 i2, .bool c3, .bool c4, .string c5, .string c6, .int .i64 c7, .int .i64 c8, .slice u1 no u3, .slice u4 ni u6]) (w.heap.size + 2) [.string sn, .int .i64 i1, .int .i64 i2, .bool c3, .bool c4, .string c5, .string c6, .int .i64 c7, .int .i64 c8, .slice u1 no u3, .slice u4 ni u6] := (((((((((((hRa.set (i := 0) (by simp) (.string sn)).set (i := 1) (by simp) (.int .i64 i1)).set (i := 2) (by simp) (.int .i64 i2)).set (i := 3) (by simp) (.bool c3)).set (i := 4) (by simp) (.bool c4)).set (i := 5) (by simp) (.string c5)).set (i := 6) (by simp) (.string c6)).set (i := 7) (by simp) (.int .i64 c7)).set (i := 8) (by simp) (.int .i64 c8)).set (i := 9) (by simp) (.slice u1 no u3)).set (i := 10) (by simp) (.slice u4 ni u6))
      have hRz2 : Bn ((putL wa (w.heap.size + 2) 0 [.string sn, .int .i64 i1, .int .i64 i2, .bool c3, .bool c4, .string c5, .string c6, .int .i64 c7, .int .i64 c8, .slice u1 no u3, .slice u4 ni u6]).setCell ⟨w.heap.size + 3, 0, none⟩ (.bool true)) (w.heap.size + 2) [.string sn, .int .i64 i1, .int .i64 i2, .bool c3, .bool c4, .string c5, .string c6, .int .i64 c7, .int .i64 c8, .slice u1 no u3, .slice u4 ni u6] := hRz.far (i := 0) (by omega) _
      have hRw : Bn ((putL wa (w.heap.size + 2) 0 [.string sn, .int .i64 i1, .int .i64 i2, .bool c3, .bool c4, .string c5, .string c6, .int .i64 c7, .int .i64 c8, .slice u1 no u3, .slice u4 ni u6]).setCell ⟨w.heap.size + 3, 0, none⟩ (.bool true)) (w.heap.size + 3) [.bool true] := (hRb.blk (putL_heap _ _ _ _ _ (by omega))).set (i := 0) (by simp) (.bool true)
      have o2 : o (w.heap.size + 2) := (h5 _).2 (.inr (.inl rfl))
      have o3 : o (w.heap.size + 3) := (h5 _).2 (.inr (.inr (.inl rfl)))
      have hsm : Sm (fun k => k < w.heap.size ∨ ¬ o k) W ((putL wa (w.heap.size + 2) 0 [.string sn, .int .i64 i1, .int .i64 i2, .bool c3, .bool c4, .string c5, .string c6, .int .i64 c7, .int .i64 c8, .slice u1 no u3, .slice u4 ni u6]).setCell ⟨w.heap.size + 3, 0, none⟩ (.bool true)) := ((Sm.of_below b3 (fun i hi _ => hi)).trans (Sm.putL (K := fun k => k < w.heap.size ∨ ¬ o k) (fun h => by rcases h with h | h; omega; exact h o2) [.string sn, .int .i64 i1, .int .i64 i2, .bool c3, .bool c4, .string c5, .string c6, .int .i64 c7, .int .i64 c8, .slice u1 no u3, .slice u4 ni u6] wa 0) (fun _ _ h => h)).trans (Sm.setCell (fun k => k < w.heap.size ∨ ¬ o k) _ ⟨w.heap.size + 3, 0, none⟩ (.bool true) (fun h => by rcases h with h | h; exact absurd (show w.heap.size + 3 < w.heap.size from h) (by omega); exact h o3)) (fun _ _ h => h)
      refine ⟨o, ⟨hsm, fun _ h => .inl h⟩, rfl, pre, (k, (⟨e + 1, t⟩ : SgS), [.string sn, .int .i64 sl, .int .i64 sc', .bool sb, .bool se, .string sd, .string su, .int .i64 sw, .int .i64 sr, .slice oa no oc, .slice ia ni ic]), _, _, _, _, _, _, _, _, _, _, _, rfl, by omega, ?_, hRz2, hRw, o2, o3, Nat.le_trans h6 hsm.size, h7.trans (hsm.below h7.size (fun i hi => .inl hi))⟩
      show tlS _ _
      obtain ⟨e1, e2, e3⟩ := HNN.out
      exact ⟨i1, i2, c3, c4, c5, c6, c7, c8, u1, u3, u4, u6, by rw [e1, e2, ← e3]⟩
    | succ j =>
      have hj0 : ¬ (((j + 1 : Nat) : Int) = 0) := by omega
      have hw : IntKind.i64.wrap (((j + 1 : Nat) : Int) - 1) = (j : Int) := by rw [wrap_small] <;> omega
      obtain ⟨J, hJ⟩ : ∃ J, ((j + 1 : Nat) : Int) = J := ⟨_, rfl⟩
      rw [hJ] at cj hj0 hw
      gi_wp2
      have o1 : o (w.heap.size + 1) := (h5 _).2 (.inl rfl)
      have hsm : Sm (fun k => k < w.heap.size ∨ ¬ o k) W (W.setCell ⟨w.heap.size + 1, 0, none⟩ (.int .i64 (j : Int))) := Sm.setCell (fun k => k < w.heap.size ∨ ¬ o k) _ ⟨w.heap.size + 1, 0, none⟩ _ (fun h => by rcases h with h | h; exact absurd (show w.heap.size + 1 < w.heap.size from h) (by omega); exact h o1)
      refine ⟨fun k => k = w.heap.size + 1 ∨ k = w.heap.size + 2 ∨ k = w.heap.size + 3, ⟨hsm, fun k h => .inl ((h5 k).2 ?_)⟩, j, by simp; omega, h2.set (i := 0) (by simp) (.int .i64 (j : Int)), h3.far (i := 0) (by omega) _, h4.far (i := 0) (by omega) _, fun _ => Iff.rfl, Nat.le_trans h6 hsm.size, h7.trans (hsm.below h7.size (fun i hi => .inl hi))⟩
      rcases h with h | h | h
      · exact .inl h
      · exact .inr (.inl h)
      · exact .inr (.inr (.inl h))
  case done =>
    rintro D o W hD ⟨j, h1, h2, h3, h4, h5, h6, h7⟩ hnD hK
    have hD2 : w.heap.size + 2 ≠ D := fun e => hnD (e ▸ (h5 _).2 (.inr (.inl rfl)))
    have hD3 : w.heap.size + 3 ≠ D := fun e => hnD (e ▸ (h5 _).2 (.inr (.inr rfl)))
    have h3 : Bn W (w.heap.size + 2) [.string ⟨#[]⟩, .int .i64 0, .int .i64 0, .bool false, .bool false, .string ⟨#[]⟩, .string ⟨#[]⟩, .int .i64 0, .int .i64 0, .slice none 0 0, .slice none 0 0] := h3
    obtain ⟨r0, g0⟩ := h3 0 _ rfl
    obtain ⟨r1, g1⟩ := h3 1 _ rfl
    obtain ⟨r2, g2⟩ := h3 2 _ rfl
    obtain ⟨r3, g3⟩ := h3 3 _ rfl
    obtain ⟨r4, g4⟩ := h3 4 _ rfl
    obtain ⟨r5, g5⟩ := h3 5 _ rfl
    obtain ⟨r6, g6⟩ := h3 6 _ rfl
    obtain ⟨r7, g7⟩ := h3 7 _ rfl
    obtain ⟨r8, g8⟩ := h3 8 _ rfl
    obtain ⟨r9, g9⟩ := h3 9 _ rfl
    obtain ⟨r10, g10⟩ := h3 10 _ rfl
    obtain ⟨k0, m0⟩ := h4 0 _ rfl
    gi_wp2
    have hDl : D < W.heap.size := (Array.getElem?_eq_some_iff.1 hK).1
    have hRz : Bn (putL W (w.heap.size + 2) 0 [.string ⟨#[]⟩, .int .i64 0, .int .i64 0, .bool false, .bool false, .string ⟨#[]⟩, .string ⟨#[]⟩, .int .i64 0, .int .i64 0, .slice none 0 0, .slice none 0 0]) (w.heap.size + 2) [.string ⟨#[]⟩, .int .i64 0, .int .i64 0, .bool false, .bool false, .string ⟨#[]⟩, .string ⟨#[]⟩, .int .i64 0, .int .i64 0, .slice none 0 0, .slice none 0 0] := (((((((((((h3.set (i := 0) (by simp [zSt]) (.string ⟨#[]⟩)).set (i := 1) (by simp [zSt]) (.int .i64 0)).set (i := 2) (by simp [zSt]) (.int .i64 0)).set (i := 3) (by simp [zSt]) (.bool false)).set (i := 4) (by simp [zSt]) (.bool false)).set (i := 5) (by simp [zSt]) (.string ⟨#[]⟩)).set (i := 6) (by simp [zSt]) (.string ⟨#[]⟩)).set (i := 7) (by simp [zSt]) (.int .i64 0)).set (i := 8) (by simp [zSt]) (.int .i64 0)).set (i := 9) (by simp [zSt]) (.slice none 0 0)).set (i := 10) (by simp [zSt]) (.slice none 0 0))
    have hRz2 : Bn ((putL W (w.heap.size + 2) 0 [.string ⟨#[]⟩, .int .i64 0, .int .i64 0, .bool false, .bool false, .string ⟨#[]⟩, .string ⟨#[]⟩, .int .i64 0, .int .i64 0, .slice none 0 0, .slice none 0 0]).setCell ⟨w.heap.size + 3, 0, none⟩ (.bool false)) (w.heap.size + 2) [.string ⟨#[]⟩, .int .i64 0, .int .i64 0, .bool false, .bool false, .string ⟨#[]⟩, .string ⟨#[]⟩, .int .i64 0, .int .i64 0, .slice none 0 0, .slice none 0 0] := hRz.far (i := 0) (by omega) _
    have hRw : Bn ((putL W (w.heap.size + 2) 0 [.string ⟨#[]⟩, .int .i64 0, .int .i64 0, .bool false, .bool false, .string ⟨#[]⟩, .string ⟨#[]⟩, .int .i64 0, .int .i64 0, .slice none 0 0, .slice none 0 0]).setCell ⟨w.heap.size + 3, 0, none⟩ (.bool false)) (w.heap.size + 3) [.bool false] := (h4.blk (putL_heap _ _ _ _ _ (by omega))).set (i := 0) (by simp) (.bool false)
    have hKz : ((putL W (w.heap.size + 2) 0 [.string ⟨#[]⟩, .int .i64 0, .int .i64 0, .bool false, .bool false, .string ⟨#[]⟩, .string ⟨#[]⟩, .int .i64 0, .int .i64 0, .slice none 0 0, .slice none 0 0]).setCell ⟨w.heap.size + 3, 0, none⟩ (.bool false)).heap[D]? = some (.deferred (some [])) := ((Below.heap_setCell _ _ _ _ (fun e => hD3 (show w.heap.size + 3 = D from e.symm))).trans (putL_heap _ _ _ _ _ (by omega))).trans hK
    have hBz : Below w.heap.size w ((putL W (w.heap.size + 2) 0 [.string ⟨#[]⟩, .int .i64 0, .int .i64 0, .bool false, .bool false, .string ⟨#[]⟩, .string ⟨#[]⟩, .int .i64 0, .int .i64 0, .slice none 0 0, .slice none 0 0]).setCell ⟨w.heap.size + 3, 0, none⟩ (.bool false)) := (putL_below _ W (w.heap.size + 2) 0 h7 (by omega)).setCell (p := ⟨w.heap.size + 3, 0, none⟩) (by simp) _
    refine ⟨by simp, .inl ⟨_, _, rfl, run_takeDeferred hKz, ?_⟩⟩
    have g2 := hRz2.blk (w' := ((putL W (w.heap.size + 2) 0 [.string ⟨#[]⟩, .int .i64 0, .int .i64 0, .bool false, .bool false, .string ⟨#[]⟩, .string ⟨#[]⟩, .int .i64 0, .int .i64 0, .slice none 0 0, .slice none 0 0]).setCell ⟨w.heap.size + 3, 0, none⟩ (.bool false)).putObj D (.deferred none)) (World.putObj_heap_other (by omega))
    have g3 := hRw.blk (w' := ((putL W (w.heap.size + 2) 0 [.string ⟨#[]⟩, .int .i64 0, .int .i64 0, .bool false, .bool false, .string ⟨#[]⟩, .string ⟨#[]⟩, .int .i64 0, .int .i64 0, .slice none 0 0, .slice none 0 0]).setCell ⟨w.heap.size + 3, 0, none⟩ (.bool false)).putObj D (.deferred none)) (World.putObj_heap_other (by omega))
    refine ⟨_, stt_res g2 g3 rfl rfl, _, _, _, _, _, _, _, _, _, _, _, false, rfl, .inr ⟨rfl, ?_, rfl⟩, hBz.trans (belowK_b (w := w) (Nat.le_refl _) _ D _ _ (by omega) hKz rfl rfl)⟩
    rw [← HM.out, List.length_map]
    omega
  case stop =>
    rintro D cc pre o W hD hpre ⟨rfl, p, x, a, b, c3, d3, e3, f, g, h, i, j, k, h1, h2, h3, h4, h5, h6, h7, h8, h9⟩ hnD hK
    have hD2 : w.heap.size + 2 ≠ D := fun e => hnD (e ▸ h6)
    have hD3 : w.heap.size + 3 ≠ D := fun e => hnD (e ▸ h7)
    gi_wp2
    refine ⟨by simp, .inl ⟨_, _, rfl, run_takeDeferred hK, ?_⟩⟩
    have g2 : Bn (W.putObj D (.deferred none)) (w.heap.size + 2) [a, b, c3, d3, e3, f, g, h, i, j, k] := h4.blk (World.putObj_heap_other (by omega))
    have g3 : Bn (W.putObj D (.deferred none)) (w.heap.size + 3) [.bool true] := h5.blk (World.putObj_heap_other (by omega))
    obtain ⟨rest, hrest⟩ := hpre
    have hget : (flM d 0 c.2.2.2)[i0]? = some (x.1, x.2.1) := by
      rw [← HM.out, ← hrest, h1, ← h2]
      simp
    obtain ⟨hi0, hx0⟩ := List.getElem?_eq_some_iff.1 hget
    refine ⟨_, stt_res g2 g3 rfl rfl, a, b, c3, d3, e3, f, g, h, i, j, k, true, rfl, .inl ⟨rfl, hi0, ?_⟩, h9.trans (belowK_b (w := w) (Nat.le_refl _) W D _ _ (by omega) hK rfl rfl)⟩
    rw [hx0]
    exact h3.out
end Go.Proofs.Ytoankfbccofllaa
