import Derived.Test.YtifgbioacknjpaaGreatDoorWsc08
import Derived.Test.YtifgbioacknjpaaGreatDoorWsc17
import Derived.Deep.CutBlock
import Derived.Test.YtifgbioacknjpaaGreatDoorWsc02
import Derived.Test.YtifgbioacknjpaaGreatDoorWsc06
import Derived.Test.YtifgbioacknjpaaGreatDoorWsc03
import Derived.Test.YtifgbioacknjpaaGreatDoorWsc14

/- What the document's text of a state is. -/
namespace Go.Proofs.YtifgbioacknjpaaGreatDoor
open Go.RowKit Go.Lib
set_option linter.unusedSimpArgs false
set_option linter.unusedVariables false
attribute [local go_sem ↓] Go.wp_at_zero Go.wp_at_succ

def TdC (d : Nat) : Prop := ∀ (ok : Nat → Prop) (w : World) (t : St d) (cs : List Value) (n : Nat) (tb : ByteArray), rStD d ok w t cs → DStK d t → StCl d t → stF d n t = true → Tabs w → Pow w → bl tb = List.replicate n 9 → (stTd d n t).length ≤ 17592186044416 →
  Calls Tryz.prog 39 #[.agg cs.toArray, .string tb] w fun e w' => e = .returned (.string ⟨(stTd d n t).toArray⟩) ∧ Below w.heap.size w w'
theorem ba_bl {o : ByteArray} {l : List UInt8} (h : bl o = l) : o = ⟨l.toArray⟩ := by
  rw [← h]
/-- A state of a row, and the call for it. -/
theorem td_call (d : Nat) (IH : TdC d) {ok : Nat → Prop} {w wr : World} {l : List (St d)} {a : Option Addr} {m cap n : Nat} {tb : ByteArray} (h : RdK ok w 11 (rStD d ok w) l (.slice a m cap)) (j : Nat) (hj : j < l.length) (hk : DStK d l[j]) (hc : StCl d l[j]) (hf : stF d n l[j] = true) (hT : Tabs wr) (hP : Pow wr) (hb : Below w.heap.size w wr) (htb : bl tb = List.replicate n 9) (hl : (stTd d n l[j]).length ≤ 17592186044416) (T : ByteArray) (hTe : (⟨(stTd d n l[j]).toArray⟩ : ByteArray) = T) : ∃ b off gn gl gc ga ge gd gu gw gr q1 q2 q3 q4 q5 q6, a = some ⟨b, off, none⟩ ∧ wr.cell? ⟨b, off + j * 11, none⟩ = some (.string gn) ∧ wr.cell? ⟨b, off + j * 11 + 1, none⟩ = some (.int .i64 gl) ∧ wr.cell? ⟨b, off + j * 11 + 2, none⟩ = some (.int .i64 gc) ∧ wr.cell? ⟨b, off + j * 11 + 3, none⟩ = some (.bool ga) ∧ wr.cell? ⟨b, off + j * 11 + 4, none⟩ = some (.bool ge) ∧ wr.cell? ⟨b, off + j * 11 + 5, none⟩ = some (.string gd) ∧ wr.cell? ⟨b, off + j * 11 + 6, none⟩ = some (.string gu) ∧ wr.cell? ⟨b, off + j * 11 + 7, none⟩ = some (.int .i64 gw) ∧ wr.cell? ⟨b, off + j * 11 + 8, none⟩ = some (.int .i64 gr) ∧ wr.cell? ⟨b, off + j * 11 + 9, none⟩ = some (.slice q1 q2 q3) ∧ wr.cell? ⟨b, off + j * 11 + 10, none⟩ = some (.slice q4 q5 q6) ∧
    Calls Tryz.prog 39 #[.agg #[.string gn, .int .i64 gl, .int .i64 gc, .bool ga, .bool ge, .string gd, .string gu, .int .i64 gw, .int .i64 gr, .slice q1 q2 q3, .slice q4 q5 q6], .string tb] wr fun e w' => e = .returned (.string T) ∧ Below wr.heap.size wr w' := by
  obtain ⟨b, off, gn, gl, gc, ga, ge, gd, gu, gw, gr, q1, q2, q3, q4, q5, q6, ha, _, hbl, hr, hcell⟩ := stD_let h j hj
  have hr2 := (kp_stD d) hr (ok' := ok) (w' := wr) (fun k hk hl => ⟨hk, hb.block k hl⟩)
  have hc1 := IH ok wr l[j] _ n tb hr2 hk hc hf hT hP htb hl
  rw [hTe] at hc1
  refine ⟨b, off, gn, gl, gc, ga, ge, gd, gu, gw, gr, q1, q2, q3, q4, q5, q6, ha, ?_, ?_, ?_, ?_, ?_, ?_, ?_, ?_, ?_, ?_, ?_, hc1⟩
  · have := (hb.cell (p := ⟨b, off + j * 11 + 0, none⟩) hbl).trans (hcell 0 _ rfl)
    rwa [Nat.add_zero] at this
  · exact (hb.cell (p := ⟨b, off + j * 11 + 1, none⟩) hbl).trans (hcell 1 _ rfl)
  · exact (hb.cell (p := ⟨b, off + j * 11 + 2, none⟩) hbl).trans (hcell 2 _ rfl)
  · exact (hb.cell (p := ⟨b, off + j * 11 + 3, none⟩) hbl).trans (hcell 3 _ rfl)
  · exact (hb.cell (p := ⟨b, off + j * 11 + 4, none⟩) hbl).trans (hcell 4 _ rfl)
  · exact (hb.cell (p := ⟨b, off + j * 11 + 5, none⟩) hbl).trans (hcell 5 _ rfl)
  · exact (hb.cell (p := ⟨b, off + j * 11 + 6, none⟩) hbl).trans (hcell 6 _ rfl)
  · exact (hb.cell (p := ⟨b, off + j * 11 + 7, none⟩) hbl).trans (hcell 7 _ rfl)
  · exact (hb.cell (p := ⟨b, off + j * 11 + 8, none⟩) hbl).trans (hcell 8 _ rfl)
  · exact (hb.cell (p := ⟨b, off + j * 11 + 9, none⟩) hbl).trans (hcell 9 _ rfl)
  · exact (hb.cell (p := ⟨b, off + j * 11 + 10, none⟩) hbl).trans (hcell 10 _ rfl)
set_option maxRecDepth 100000 in
set_option maxHeartbeats 16000000 in
theorem td_step (d : Nat) (IH : TdC d) : TdC (d + 1) := by
  intro ok w t cs n tb h hk hcl hF hT hPw htb hlen
  obtain ⟨so, si, rfl, hOn, hIn⟩ := h
  obtain ⟨p1, p3, rfl, hp1, hp2⟩ := hOn.form
  obtain ⟨p4, p6, rfl, hp4, hp5⟩ := hIn.form
  unfold maxLen at hp2 hp5
  obtain ⟨⟨k1, k2, k3, k4⟩, k5⟩ := hk
  obtain ⟨hcl1, hcl2⟩ := hcl
  obtain ⟨hn6, hpn, hkn, hfo, hfi⟩ := stF_parts hF
  obtain ⟨sn, e1, e2, e3⟩ := strD _ k1
  obtain ⟨sd, d1, d2, d3⟩ := strD _ k2
  obtain ⟨su, u1, u2, u3⟩ := strD _ k3
  obtain ⟨m, hm⟩ : ∃ m, t.1.2.2.2.2.length = m := ⟨_, rfl⟩
  obtain ⟨i, hi⟩ : ∃ m, t.2.length = m := ⟨_, rfl⟩
  obtain ⟨sl, hsl⟩ : ∃ x, t.1.1.2.1 = x := ⟨_, rfl⟩
  obtain ⟨sc, hsc⟩ : ∃ x, t.1.1.2.2 = x := ⟨_, rfl⟩
  obtain ⟨sb, hsb⟩ : ∃ x, t.1.2.1.1 = x := ⟨_, rfl⟩
  obtain ⟨se, hse⟩ : ∃ x, t.1.2.1.2 = x := ⟨_, rfl⟩
  obtain ⟨sw, hsw⟩ : ∃ x, t.1.2.2.2.1.1 = x := ⟨_, rfl⟩
  obtain ⟨sr, hsr⟩ : ∃ x, t.1.2.2.2.1.2 = x := ⟨_, rfl⟩
  have hcs : (hdD t.1 (.slice p1 t.1.2.2.2.2.length p3) (.slice p4 t.2.length p6)).toArray = #[.string sn, .int .i64 sl, .int .i64 sc, .bool sb, .bool se, .string sd, .string su, .int .i64 sw, .int .i64 sr, .slice p1 m p3, .slice p4 i p6] := by
    unfold hdD
    rw [e1, d1, u1, hm, hi, hsl, hsc, hsb, hse, hsw, hsr]
  rw [hcs]
  obtain ⟨TOT, hTOT⟩ : ∃ x, stTd (d + 1) n t = x := ⟨_, rfl⟩
  obtain ⟨KN, hKN⟩ : ∃ x, kndTd (n + 1) t.1 = x := ⟨_, rfl⟩
  obtain ⟨REND, hREND⟩ : ∃ x, List.replicate n (9 : UInt8) ++ [125, 10] = x := ⟨_, rfl⟩
  obtain ⟨RIN, hRIN⟩ : ∃ x, (t.2.map (stTd d (n + 1))).flatten ++ REND = x := ⟨_, rfl⟩
  obtain ⟨RON, hRON⟩ : ∃ x, (t.1.2.2.2.2.map (onTd (n + 1))).flatten ++ RIN = x := ⟨_, rfl⟩
  have htot : bl tb ++ ([115, 116, 97, 116, 101, 32] ++ (bl sn ++ ([32, 123, 10] ++ (KN ++ RON)))) = TOT := by
    rw [← hTOT, stTd_eq, htb, e2, ← hKN, ← hRON, ← hRIN, ← hREND]
  rw [hTOT] at hlen ⊢
  obtain ⟨o1, H1, a1⟩ := pre_add tb ⟨#[115, 116, 97, 116, 101, 32]⟩ (bl sn ++ ([32, 123, 10] ++ (KN ++ RON))) TOT htot hlen
  obtain ⟨o2, H2, a2⟩ := pre_add o1 sn ([32, 123, 10] ++ (KN ++ RON)) TOT H1.out hlen
  obtain ⟨o3, H3, a3⟩ := pre_add o2 ⟨#[32, 123, 10]⟩ (KN ++ RON) TOT H2.out hlen
  obtain ⟨tin, q0, z0, a0⟩ := add_ex tb ⟨#[9]⟩ (by
    have hz : tb.size = n := by
      have := congrArg List.length htb
      rw [List.length_replicate] at this
      unfold bl at this
      rw [Array.length_toList] at this
      exact this
    show _ + 1 ≤ _
    omega)
  have HTI : Hid (bl tin = List.replicate (n + 1) 9) := by
    show _ = _
    rw [q0, htb, List.replicate_succ']
  have HTB := mkHid htb
  have HKN : Hid ((sb = true ∧ KN = bl tin ++ [97, 108, 108, 10]) ∨ (sb = false ∧ se = true ∧ KN = bl tin ++ [101, 110, 100, 10]) ∨ (sb = false ∧ se = false ∧ bl sd ≠ [] ∧ (0 ≤ sw ∧ sw ≤ 1000000000) ∧ (0 ≤ sr ∧ sr ≤ 1000000000) ∧ KN = bl tin ++ ([100, 111, 32] ++ (bl sd ++ ([32, 117, 110, 100, 111, 32] ++ (bl su ++ ([32, 97, 116, 32] ++ (dcN sw ++ ([32, 114, 101, 116, 114, 105, 101, 115, 32] ++ (dcN sr ++ [10]))))))))) ∨ (sb = false ∧ se = false ∧ bl sd = [] ∧ KN = [])) := by
    show _ ∨ _
    rw [← hKN]
    unfold kndTd
    rw [HTI.out, hsb, hse, hsw, hsr, ← d2, ← u2]
    cases sb with
    | true => exact .inl ⟨rfl, rfl⟩
    | false =>
      cases se with
      | true => exact .inr (.inl ⟨rfl, rfl, rfl⟩)
      | false =>
        by_cases hd : bl sd = []
        · exact .inr (.inr (.inr ⟨rfl, rfl, hd, by rw [hd]; rfl⟩))
        · refine .inr (.inr (.inl ⟨rfl, rfl, hd, ?_, ?_, ?_⟩))
          · have hst : stepB t.1 = true := by unfold stepB; rw [d2] at hd; simp [hd]
            have := (kndF_step hkn hst).2.2.2.2.1
            rw [hsw] at this
            exact of_decide_eq_true this
          · have hst : stepB t.1 = true := by unfold stepB; rw [d2] at hd; simp [hd]
            have := (kndF_step hkn hst).2.2.2.2.2
            rw [hsr] at this
            exact of_decide_eq_true this
          · rw [if_neg (by simp), if_neg (by simp), if_pos hd]
  have HRON := mkHid hRON
  have HRIN := mkHid hRIN
  have HREND := mkHid hREND
  have HON := mkHid hOn
  have HIN := mkHid hIn
  have HM := mkHid hm
  have HI := mkHid hi
  have HK4 := mkHid k4
  have HK5 := mkHid k5
  have HC1 := mkHid hcl1
  have HC2 := mkHid hcl2
  have HFO := mkHid hfo
  have HFI := mkHid hfi
  have HH3 := H3
  rw [hm] at hp1
  rw [hi] at hp4
  have hal := (Below.refl w.heap.size w).alloc (Nat.le_refl _) (.cells #[.string sn, .int .i64 sl, .int .i64 sc, .bool sb, .bool se, .string sd, .string su, .int .i64 sw, .int .i64 sr, .slice p1 m p3, .slice p4 i p6] 85)
  have hX : Bn (w.alloc (.cells #[.string sn, .int .i64 sl, .int .i64 sc, .bool sb, .bool se, .string sd, .string su, .int .i64 sw, .int .i64 sr, .slice p1 m p3, .slice p4 i p6] 85)) w.heap.size [.string sn, .int .i64 sl, .int .i64 sc, .bool sb, .bool se, .string sd, .string su, .int .i64 sw, .int .i64 sr, .slice p1 m p3, .slice p4 i p6] := Bn.new w [.string sn, .int .i64 sl, .int .i64 sc, .bool sb, .bool se, .string sd, .string su, .int .i64 sw, .int .i64 sr, .slice p1 m p3, .slice p4 i p6] 85 _ rfl
  clear H1 H2 H3 htot q0 z0 htb hKN hREND hRIN hRON hTOT hcs hOn hIn hm hi k4 k5 hcl1 hcl2 hfo hfi hF e1 e2 e3 d1 d2 d3 u1 u2 u3 k1 k2 k3 hsl hsc hsb hse hsw hsr hkn hpn
  obtain ⟨c0, _⟩ := hX 0 _ rfl
  go_enter Tryz.func39, Tryz.ntmps39
  go_upto_block 0 with fail
  clear c0
  generalize (w.alloc (.cells #[.string sn, .int .i64 sl, .int .i64 sc, .bool sb, .bool se, .string sd, .string su, .int .i64 sw, .int .i64 sr, .slice p1 m p3, .slice p4 i p6] 85)) = wx at *
  clear a0 a1 a2 a3
  go_cut [6] from 19 to 58 (fun u wc => ∃ o4 : ByteArray, u = .string o4 ∧ Hid (bl o4 ++ RON = TOT) ∧ Below wx.heap.size wx wc)
  case first =>
    clear HRON HRIN HREND HON HIN HK4 HK5 HC1 HC2 HFO HFI IH
    obtain ⟨c2, _⟩ := hX 3 _ rfl
    obtain ⟨c3, _⟩ := hX 4 _ rfl
    obtain ⟨c4, _⟩ := hX 5 _ rfl
    obtain ⟨c5, _⟩ := hX 6 _ rfl
    obtain ⟨c6, _⟩ := hX 7 _ rfl
    obtain ⟨c7, _⟩ := hX 8 _ rfl
    rcases HKN.out with ⟨rfl, rfl⟩ | ⟨rfl, rfl, rfl⟩ | ⟨rfl, rfl, hd, hw1, hw2, rfl⟩ | ⟨rfl, rfl, hd, rfl⟩
    · obtain ⟨o4, H4, a4⟩ := pre_add o3 tin ([97, 108, 108, 10] ++ RON) TOT (by have := HH3.out; rw [List.append_assoc] at this; exact this) hlen
      obtain ⟨o5, H5, a5⟩ := pre_add o4 ⟨#[97, 108, 108, 10]⟩ RON TOT H4.out hlen
      clear HKN HH3 H4
      go_wp2
      go_meet
      case rel => exact ⟨o5, rfl, H5, Below.refl _ _⟩
    · obtain ⟨o4, H4, a4⟩ := pre_add o3 tin ([101, 110, 100, 10] ++ RON) TOT (by have := HH3.out; rw [List.append_assoc] at this; exact this) hlen
      obtain ⟨o5, H5, a5⟩ := pre_add o4 ⟨#[101, 110, 100, 10]⟩ RON TOT H4.out hlen
      clear HKN HH3 H4
      go_wp2
      go_meet
      case rel => exact ⟨o5, rfl, H5, Below.refl _ _⟩
    · obtain ⟨t1, ht1, et1, _⟩ := letter_of (dcN sw)
      obtain ⟨t2, ht2, et2, _⟩ := letter_of (dcN sr)
      rw [← et1, ← et2] at HH3
      obtain ⟨o4, H4, a4⟩ := pre_add o3 tin ([100, 111, 32] ++ (bl sd ++ ([32, 117, 110, 100, 111, 32] ++ (bl su ++ ([32, 97, 116, 32] ++ (bl t1 ++ ([32, 114, 101, 116, 114, 105, 101, 115, 32] ++ (bl t2 ++ ([10] ++ RON))))))))) TOT (by have := HH3.out; simp only [List.append_assoc] at this ⊢; exact this) hlen
      obtain ⟨o5, H5, a5⟩ := pre_add o4 ⟨#[100, 111, 32]⟩ (bl sd ++ ([32, 117, 110, 100, 111, 32] ++ (bl su ++ ([32, 97, 116, 32] ++ (bl t1 ++ ([32, 114, 101, 116, 114, 105, 101, 115, 32] ++ (bl t2 ++ ([10] ++ RON)))))))) TOT H4.out hlen
      obtain ⟨o6, H6, a6⟩ := pre_add o5 sd ([32, 117, 110, 100, 111, 32] ++ (bl su ++ ([32, 97, 116, 32] ++ (bl t1 ++ ([32, 114, 101, 116, 114, 105, 101, 115, 32] ++ (bl t2 ++ ([10] ++ RON))))))) TOT H5.out hlen
      obtain ⟨o7, H7, a7⟩ := pre_add o6 ⟨#[32, 117, 110, 100, 111, 32]⟩ (bl su ++ ([32, 97, 116, 32] ++ (bl t1 ++ ([32, 114, 101, 116, 114, 105, 101, 115, 32] ++ (bl t2 ++ ([10] ++ RON)))))) TOT H6.out hlen
      obtain ⟨o8, H8, a8⟩ := pre_add o7 su ([32, 97, 116, 32] ++ (bl t1 ++ ([32, 114, 101, 116, 114, 105, 101, 115, 32] ++ (bl t2 ++ ([10] ++ RON))))) TOT H7.out hlen
      obtain ⟨o9, H9, a9⟩ := pre_add o8 ⟨#[32, 97, 116, 32]⟩ (bl t1 ++ ([32, 114, 101, 116, 114, 105, 101, 115, 32] ++ (bl t2 ++ ([10] ++ RON)))) TOT H8.out hlen
      obtain ⟨oa, Ha, aa⟩ := pre_add o9 t1 ([32, 114, 101, 116, 114, 105, 101, 115, 32] ++ (bl t2 ++ ([10] ++ RON))) TOT H9.out hlen
      obtain ⟨ob, Hb, ab⟩ := pre_add oa ⟨#[32, 114, 101, 116, 114, 105, 101, 115, 32]⟩ (bl t2 ++ ([10] ++ RON)) TOT Ha.out hlen
      obtain ⟨oc, Hc, ac⟩ := pre_add ob t2 ([10] ++ RON) TOT Hb.out hlen
      obtain ⟨oe, He, ae⟩ := pre_add oc ⟨#[10]⟩ RON TOT Hc.out hlen
      have hP1 := hPw.below hal
      have i1 : ∀ w1, Below wx.heap.size wx w1 → Calls Tryz.prog 37 #[.int .i64 sw] w1 fun e w' => e = .returned (.string t1) ∧ Below w1.heap.size w1 w' := fun w1 bb => by
        rw [← ht1]; exact itoa_any hw1.1 hw1.2 w1 (hP1.below bb)
      have i2 : ∀ w1, Below wx.heap.size wx w1 → Calls Tryz.prog 37 #[.int .i64 sr] w1 fun e w' => e = .returned (.string t2) ∧ Below w1.heap.size w1 w' := fun w1 bb => by
        rw [← ht2]; exact itoa_any hw2.1 hw2.2 w1 (hP1.below bb)
      have hdn : (!sd.toList.isEmpty) = true := by rw [neqE, decide_eq_false hd]; rfl
      have hltx := hX.lt
      clear HKN HH3 H4 H5 H6 H7 H8 H9 Ha Hb Hc ht1 ht2 et1 et2 hd hP1 hPw
      clear hX hal
      have hB : Below wx.heap.size wx wx := Below.refl _ _
      go_upto_region 8 with fail
      have y4 := c4
      have y5 := c5
      have y6 := c6
      have y7 := c7
      go_region_held_law (fun w' => w'.cell? ⟨w.heap.size, 5, none⟩ = some (.string sd) ∧ w'.cell? ⟨w.heap.size, 6, none⟩ = some (.string su) ∧ w'.cell? ⟨w.heap.size, 7, none⟩ = some (.int .i64 sw) ∧ w'.cell? ⟨w.heap.size, 8, none⟩ = some (.int .i64 sr))
        ((refine ⟨?_, ?_, ?_, ?_⟩ <;> (repeat (first | (with_reducible exact y4) | (with_reducible exact y5) | (with_reducible exact y6) | (with_reducible exact y7) | (with_reducible refine cell_dr ?_))) <;> done))
        (first
          | (go_at_call 37; (first | (with_reducible refine (i1 _ hB).mono ?_) | (with_reducible refine (i1 _ hB.drew).mono ?_)); rintro e w1 ⟨rfl, b1⟩; (first | have hB := Below.nxd hB b1 | have hB := Below.nx hB b1); have y4 := (hB.cell (p := ⟨w.heap.size, 5, none⟩) hltx).trans c4; have y5 := (hB.cell (p := ⟨w.heap.size, 6, none⟩) hltx).trans c5; have y6 := (hB.cell (p := ⟨w.heap.size, 7, none⟩) hltx).trans c6; have y7 := (hB.cell (p := ⟨w.heap.size, 8, none⟩) hltx).trans c7)
          | (go_at_call 37; (first | (with_reducible refine (i2 _ hB).mono ?_) | (with_reducible refine (i2 _ hB.drew).mono ?_)); rintro e w1 ⟨rfl, b1⟩; (first | have hB := Below.nxd hB b1 | have hB := Below.nx hB b1); have y4 := (hB.cell (p := ⟨w.heap.size, 5, none⟩) hltx).trans c4; have y5 := (hB.cell (p := ⟨w.heap.size, 6, none⟩) hltx).trans c5; have y6 := (hB.cell (p := ⟨w.heap.size, 7, none⟩) hltx).trans c6; have y7 := (hB.cell (p := ⟨w.heap.size, 8, none⟩) hltx).trans c7)
          | fail)
      all_goals (
        go_wp2
        go_meet
        case rel => exact ⟨oe, rfl, He, hB⟩)
    · have hdn : (!sd.toList.isEmpty) = false := by rw [neqE, decide_eq_true hd]; rfl
      have H5 : Hid (bl o3 ++ RON = TOT) := HH3
      clear HKN HH3 hd
      go_wp2
      go_meet
      case rel => exact ⟨o3, rfl, H5, Below.refl _ _⟩
  case rest =>
  obtain ⟨o4, rfl, H4, hbc⟩ := hcut
  clear HKN HH3
  have hb1 := hal.trans (hbc.mono hal.size)
  have hX1 := hX.on hbc
  clear hX hal hbc
  obtain ⟨c8, _⟩ := hX1 9 _ rfl
  go_upto_block 1 with fail
  clear c8
  go_cut [6, 7, 8, 9] from 62 to 117 (fun u6 u7 u8 u9 wc => ∃ o5 : ByteArray, u6 = .string o5 ∧ Hid (bl o5 ++ RIN = TOT) ∧ Below w.heap.size w wc ∧ Bn wc w.heap.size [.string sn, .int .i64 sl, .int .i64 sc, .bool sb, .bool se, .string sd, .string su, .int .i64 sw, .int .i64 sr, .slice p1 m p3, .slice p4 i p6])
  case first =>
    clear HRIN HREND HIN HK5 HC2 HFI IH HI
    go_wp2_with fail
    go_loopw [6, 62] (fun u6 ix wr => ∃ (g : Nat) (og : ByteArray), g ≤ m ∧ ix = .int .i64 (g : Int) ∧ u6 = .string og ∧ Hid (bl og ++ (((t.1.2.2.2.2.drop g).map (onTd (n + 1))).flatten ++ RIN) = TOT) ∧ Below w.heap.size w wr ∧ Bn wr w.heap.size [.string sn, .int .i64 sl, .int .i64 sc, .bool sb, .bool se, .string sd, .string su, .int .i64 sw, .int .i64 sr, .slice p1 m p3, .slice p4 i p6]) (fun _ ix _ => m - (RowKit.intOf ix).toNat)
    case atStart => exact ⟨0, o4, Nat.zero_le _, rfl, rfl, by show _ = _; rw [List.drop_zero, HRON.out]; exact H4.out, hb1, hX1⟩
    case round =>
      clear H4 hb1 hX1 HRON
      obtain ⟨g, og, hg, rfl, rfl, HG, hbr, hXr⟩ := hrel
      by_cases hgl : g < m
      · have hgt : g < t.1.2.2.2.2.length := by rw [HM.out]; exact hgl
        obtain ⟨b0, oo, c0, c1, c2, c3, s1, s3, rfl, _, hbl2, hGx, hSe, hco⟩ := onD_at HON.out g hgt
        obtain ⟨v1, v2, v3, v4⟩ := HK4.out _ (List.getElem_mem hgt)
        obtain ⟨w1c, w2c⟩ := HC1.out _ (List.getElem_mem hgt)
        have hof := List.all_eq_true.1 HFO.out _ (List.getElem_mem hgt)
        have HG2 : Hid (bl og ++ (onTd (n + 1) t.1.2.2.2.2[g] ++ (((t.1.2.2.2.2.drop (g + 1)).map (onTd (n + 1))).flatten ++ RIN)) = TOT) := by
          show _ = _
          have := HG.out
          rw [drop_step hgt, List.map_cons, List.flatten_cons, List.append_assoc] at this
          exact this
        clear HG
        obtain ⟨RG, hRG⟩ : ∃ x, ((t.1.2.2.2.2.drop (g + 1)).map (onTd (n + 1))).flatten ++ RIN = x := ⟨_, rfl⟩
        rw [hRG] at HG2
        have HRG := mkHid hRG
        obtain ⟨o, ho⟩ : ∃ o, t.1.2.2.2.2[g] = o := ⟨_, rfl⟩
        rw [ho] at hGx hSe hco v1 v2 v3 v4 w1c w2c hof HG2
        obtain ⟨_, hofg, _, hofs⟩ := onF_parts hof
        obtain ⟨x1, x2, x3, x4, x5, x6, rfl, rfl, rfl, rfl⟩ := rdX_let hGx
        obtain ⟨ns, hns⟩ : ∃ m, o.2.2.2.1.length = m := ⟨_, rfl⟩
        obtain ⟨ev, ee1, ee2, ee3⟩ := strD _ v1
        obtain ⟨tg, eg1, eg2, eg3⟩ := strD _ v2
        obtain ⟨gb, hgb⟩ : ∃ x, o.2.1.1 = x := ⟨_, rfl⟩
        obtain ⟨ol, hol⟩ : ∃ x, o.2.2.2.2.1 = x := ⟨_, rfl⟩
        obtain ⟨oc, hoc⟩ : ∃ x, o.2.2.2.2.2 = x := ⟨_, rfl⟩
        rw [hns] at hSe hco
        rw [ee1, eg1, hgb, hol, hoc] at hco
        rw [hgb] at v3 w1c
        obtain ⟨_, _, hes, hcs, hms⟩ := hSe.form
        simp only [Value.slice.injEq] at hes
        obtain ⟨rfl, hx0, rfl⟩ := hes
        clear hx0
        rw [hns] at hcs
        unfold maxLen at hms
        obtain ⟨GT, hGT⟩ : ∃ x, grdTd o.2.1 = x := ⟨_, rfl⟩
        obtain ⟨RS, hRS⟩ : ∃ x, (o.2.2.2.1.map setW).flatten ++ ([10] ++ RG) = x := ⟨_, rfl⟩
        have HG3 : bl og ++ (bl tin ++ ([111, 110, 32] ++ (bl ev ++ (GT ++ ([32, 103, 111, 32] ++ (bl tg ++ RS)))))) = TOT := by
          have := HG2.out
          rw [onTd_eq] at this
          rw [HTI.out, ee2, eg2, ← hGT, ← hRS]
          simp only [List.append_assoc] at this ⊢
          exact this
        have HRS := mkHid hRS
        obtain ⟨f1, F1, r1⟩ := pre_add og tin ([111, 110, 32] ++ (bl ev ++ (GT ++ ([32, 103, 111, 32] ++ (bl tg ++ RS))))) TOT HG3 hlen
        obtain ⟨f2, F2, r2⟩ := pre_add f1 ⟨#[111, 110, 32]⟩ (bl ev ++ (GT ++ ([32, 103, 111, 32] ++ (bl tg ++ RS)))) TOT F1.out hlen
        obtain ⟨f3, F3, r3⟩ := pre_add f2 ev (GT ++ ([32, 103, 111, 32] ++ (bl tg ++ RS))) TOT F2.out hlen
        have HSE := mkHid hSe
        have HNS := mkHid hns
        have HV4 := mkHid v4
        have HW2 := mkHid w2c
        have HFS := mkHid hofs
        obtain ⟨GX, hGX1, hGX2, _⟩ := letter_of (exW o.2.1.2)
        have hq3 : gb = true → ∀ w3, Below w.heap.size w w3 → Calls Tryz.prog 69 #[.agg #[.int .i64 x1, .int .i64 x2, .string x3, .slice x4 x5 x6]] w3 fun e w' => e = .returned (.string GX) ∧ Below w3.heap.size w3 w' := fun hg w3 b3 => by
          rw [← hGX1]
          exact dexprT_any (hT.below b3 (Nat.le_refl _)) (hPw.below b3) (hGx.keep (ok' := ok) (fun k hk hl => ⟨hk, b3.block k hl⟩) : RdX ok w3 o.2.1.2 _) (w1c hg) (v3 hg).1 (v3 hg).2
        have HGT : Hid ((gb = false ∧ GT = []) ∨ (gb = true ∧ GT = [32, 105, 102, 32] ++ bl GX)) := by
          show _ ∨ _
          rw [← hGT, hGX2]
          unfold grdTd
          rw [hgb]
          cases gb with
          | true => exact .inr ⟨rfl, rfl⟩
          | false => exact .inl ⟨rfl, rfl⟩
        have O0 := (hbr.cell (p := ⟨b0, oo + g * 10 + 0, none⟩) hbl2).trans (hco 0 _ rfl)
        have O1 := (hbr.cell (p := ⟨b0, oo + g * 10 + 1, none⟩) hbl2).trans (hco 1 _ rfl)
        have O2 := (hbr.cell (p := ⟨b0, oo + g * 10 + 2, none⟩) hbl2).trans (hco 2 _ rfl)
        have O3 := (hbr.cell (p := ⟨b0, oo + g * 10 + 3, none⟩) hbl2).trans (hco 3 _ rfl)
        have O4 := (hbr.cell (p := ⟨b0, oo + g * 10 + 4, none⟩) hbl2).trans (hco 4 _ rfl)
        have O5 := (hbr.cell (p := ⟨b0, oo + g * 10 + 5, none⟩) hbl2).trans (hco 5 _ rfl)
        have O6 := (hbr.cell (p := ⟨b0, oo + g * 10 + 6, none⟩) hbl2).trans (hco 6 _ rfl)
        have O7 := (hbr.cell (p := ⟨b0, oo + g * 10 + 7, none⟩) hbl2).trans (hco 7 _ rfl)
        have O8 := (hbr.cell (p := ⟨b0, oo + g * 10 + 8, none⟩) hbl2).trans (hco 8 _ rfl)
        have O9 := (hbr.cell (p := ⟨b0, oo + g * 10 + 9, none⟩) hbl2).trans (hco 9 _ rfl)
        rw [Nat.add_zero] at O0
        obtain ⟨x9, _⟩ := hXr 9 _ rfl
        clear ee1 ee2 eg1 eg2 hgb hol hoc hns hSe hco hGx ho v1 v2 v3 v4 w1c w2c hof hofg hofs hRG hRS hGT hGX1 hGX2 HG2 HG3 F1 F2
        have i3 : (g : Int) < (m : Int) := by omega
        have i4 : (0 : Int) ≤ (g : Int) := by omega
        have halo := (Below.refl wr.heap.size wr).alloc (Nat.le_refl _) (.cells #[.string ev, .bool gb, .int .i64 x1, .int .i64 x2, .string x3, .slice x4 x5 x6, .string tg, .slice s1 ns s3, .int .i64 ol, .int .i64 oc] 107)
        have hOb : Bn (wr.alloc (.cells #[.string ev, .bool gb, .int .i64 x1, .int .i64 x2, .string x3, .slice x4 x5 x6, .string tg, .slice s1 ns s3, .int .i64 ol, .int .i64 oc] 107)) wr.heap.size [.string ev, .bool gb, .int .i64 x1, .int .i64 x2, .string x3, .slice x4 x5 x6, .string tg, .slice s1 ns s3, .int .i64 ol, .int .i64 oc] := Bn.new wr [.string ev, .bool gb, .int .i64 x1, .int .i64 x2, .string x3, .slice x4 x5 x6, .string tg, .slice s1 ns s3, .int .i64 ol, .int .i64 oc] 107 _ rfl
        have hbo := hbr.trans (halo.mono hbr.size)
        have hXo := hXr.on halo
        go_upto_region 13 with fail
        clear O0 O1 O2 O3 O4 O5 O6 O7 O8 O9 x9
        generalize (wr.alloc (.cells #[.string ev, .bool gb, .int .i64 x1, .int .i64 x2, .string x3, .slice x4 x5 x6, .string tg, .slice s1 ns s3, .int .i64 ol, .int .i64 oc] 107)) = wo at *
        obtain ⟨y0, _⟩ := hOb 0 _ rfl
        obtain ⟨y1, _⟩ := hOb 1 _ rfl
        go_upto_if 78 with fail
        clear y0 y1 r1 r2 r3
        go_cut [6] from 79 to 84 (fun u wc => ∃ f4 : ByteArray, u = .string f4 ∧ Hid (bl f4 ++ ([32, 103, 111, 32] ++ (bl tg ++ RS)) = TOT) ∧ Below wo.heap.size wo wc)
        case first =>
          rcases HGT.out with ⟨rfl, rfl⟩ | ⟨rfl, rfl⟩
          · go_wp2
            go_meet
            case rel => exact ⟨f3, rfl, F3, Below.refl _ _⟩
          · obtain ⟨f5, F5, r5⟩ := pre_add f3 ⟨#[32, 105, 102, 32]⟩ (bl GX ++ ([32, 103, 111, 32] ++ (bl tg ++ RS))) TOT (by have := F3.out; rw [List.append_assoc] at this; exact this) hlen
            obtain ⟨f6, F6, r6⟩ := pre_add f5 GX ([32, 103, 111, 32] ++ (bl tg ++ RS)) TOT F5.out hlen
            have hq4 := hq3 rfl wo hbo
            obtain ⟨y2, _⟩ := hOb 2 _ rfl
            obtain ⟨y3, _⟩ := hOb 3 _ rfl
            obtain ⟨y4, _⟩ := hOb 4 _ rfl
            obtain ⟨y5, _⟩ := hOb 5 _ rfl
            clear HGT F3 F5 hq3
            go_wp2_with (first | (go_at_call 69; refine hq4.mono ?_; rintro e w1 ⟨rfl, b1⟩) | fail)
            go_meet
            case rel => exact ⟨f6, rfl, F6, b1⟩
        case rest =>
        obtain ⟨f4, rfl, F4, hbq⟩ := hcut
        clear HGT F3 hq3
        have hOb2 := hOb.on hbq
        have hXq := hXo.on hbq
        have hbq2 := hbo.trans (hbq.mono hbo.size)
        obtain ⟨f5, F5, r5⟩ := pre_add f4 ⟨#[32, 103, 111, 32]⟩ (bl tg ++ RS) TOT F4.out hlen
        obtain ⟨f6, F6, r6⟩ := pre_add f5 tg RS TOT F5.out hlen
        obtain ⟨y6, _⟩ := hOb2 6 _ rfl
        obtain ⟨y7, _⟩ := hOb2 7 _ rfl
        clear F4 F5 hOb hXo hbo hbq
        go_upto_block 3 with fail
        clear y6 y7 r5 r6
        obtain ⟨OB, hOB⟩ : ∃ x, wr.heap.size = x := ⟨_, rfl⟩
        rw [hOB] at hOb2 ⊢
        have HOB := mkHid hOB
        clear hOB
        have hOl := hOb2.lt
        go_cut [6, 9] from 93 to 114 (fun u6 u9 wd => ∃ f7 : ByteArray, u6 = .string f7 ∧ Hid (bl f7 ++ ([10] ++ RG) = TOT) ∧ Below wc.heap.size wc wd)
        case first =>
          clear HRG hXq
          go_wp2_with fail
          go_loopw [6, 93] (fun u6 ix wk => ∃ (k : Nat) (fk : ByteArray), k ≤ ns ∧ ix = .int .i64 (k : Int) ∧ u6 = .string fk ∧ Hid (bl fk ++ (((o.2.2.2.1.drop k).map setW).flatten ++ ([10] ++ RG)) = TOT) ∧ Below wc.heap.size wc wk) (fun _ ix _ => ns - (RowKit.intOf ix).toNat)
          case atStart => exact ⟨0, f6, Nat.zero_le _, rfl, rfl, by show _ = _; rw [List.drop_zero, HRS.out]; exact F6.out, Below.refl _ _⟩
          case round =>
            clear F6 HRS
            obtain ⟨k, fk, hk, rfl, rfl, HK, hbk⟩ := hrel
            by_cases hkl : k < ns
            · have hkt : k < o.2.2.2.1.length := by rw [HNS.out]; exact hkl
              obtain ⟨bs, os, z0, z1, z2, z3, rfl, _, hbs, hSx, hcs2⟩ := setD_at HSE.out k hkt
              obtain ⟨e1, e2, e3⟩ := HV4.out _ (List.getElem_mem hkt)
              have e4 := HW2.out _ (List.getElem_mem hkt)
              have HK2 : Hid (bl fk ++ (setW o.2.2.2.1[k] ++ (((o.2.2.2.1.drop (k + 1)).map setW).flatten ++ ([10] ++ RG))) = TOT) := by
                show _ = _
                have := HK.out
                rw [drop_step hkt, List.map_cons, List.flatten_cons, List.append_assoc] at this
                exact this
              clear HK
              obtain ⟨RK, hRK⟩ : ∃ x, ((o.2.2.2.1.drop (k + 1)).map setW).flatten ++ ([10] ++ RG) = x := ⟨_, rfl⟩
              rw [hRK] at HK2
              have HRK := mkHid hRK
              obtain ⟨x, hx⟩ : ∃ x, o.2.2.2.1[k] = x := ⟨_, rfl⟩
              rw [hx] at hSx hcs2 e1 e2 e3 e4 HK2
              obtain ⟨y1, y2, y3, y4, y5, y6, rfl, rfl, rfl, rfl⟩ := rdX_let hSx
              obtain ⟨sm, em1, em2, em3⟩ := strD _ e1
              rw [em1] at hcs2
              obtain ⟨SX, hSX1, hSX2, _⟩ := letter_of (exW x.2)
              have HK3 : bl fk ++ ([32, 115, 101, 116, 32] ++ (bl sm ++ ([32, 61, 32] ++ (bl SX ++ RK)))) = TOT := by
                have := HK2.out
                rw [setW_eq] at this
                rw [em2, hSX2]
                simp only [List.append_assoc] at this ⊢
                exact this
              obtain ⟨f7, F7, r7⟩ := pre_add fk ⟨#[32, 115, 101, 116, 32]⟩ (bl sm ++ ([32, 61, 32] ++ (bl SX ++ RK))) TOT HK3 hlen
              obtain ⟨f8, F8, r8⟩ := pre_add f7 sm ([32, 61, 32] ++ (bl SX ++ RK)) TOT F7.out hlen
              obtain ⟨f9, F9, r9⟩ := pre_add f8 ⟨#[32, 61, 32]⟩ (bl SX ++ RK) TOT F8.out hlen
              obtain ⟨fa, FA, ra⟩ := pre_add f9 SX RK TOT F9.out hlen
              have hbK := hbq2.trans (hbk.mono hbq2.size)
              have hq := fun w3 (b3 : Below wr.heap.size wr w3) => (show Calls Tryz.prog 69 #[.agg #[.int .i64 y1, .int .i64 y2, .string y3, .slice y4 y5 y6]] w3 fun e w' => e = .returned (.string SX) ∧ Below w3.heap.size w3 w' from by
                have b4 := hbK.trans (b3.mono hbK.size)
                rw [← hSX1]
                exact dexprT_any (hT.below b4 (Nat.le_refl _)) (hPw.below b4) (hSx.keep (ok' := ok) (fun k hk hl => ⟨hk, b4.block k hl⟩) : RdX ok w3 x.2 _) e4 e2 e3)
              have d7 := (hbk.cell (p := ⟨OB, 7, none⟩) hOl).trans (hOb2 7 _ rfl).1
              have hOl := Nat.lt_of_lt_of_le hOl hbk.size
              have hbs2 := Nat.lt_of_lt_of_le hbs hbK.size
              have m0 := (hbK.cell (p := ⟨bs, os + k * 5 + 0, none⟩) hbs).trans (hcs2 0 _ rfl)
              have m1 := (hbK.cell (p := ⟨bs, os + k * 5 + 1, none⟩) hbs).trans (hcs2 1 _ rfl)
              have m2 := (hbK.cell (p := ⟨bs, os + k * 5 + 2, none⟩) hbs).trans (hcs2 2 _ rfl)
              have m3 := (hbK.cell (p := ⟨bs, os + k * 5 + 3, none⟩) hbs).trans (hcs2 3 _ rfl)
              have m4 := (hbK.cell (p := ⟨bs, os + k * 5 + 4, none⟩) hbs).trans (hcs2 4 _ rfl)
              rw [Nat.add_zero] at m0
              clear em1 em2 hSX1 hSX2 HK2 HK3 F7 F8 F9 hRK hx hcs2 hSx e1 e2 e3 e4
              have i5 : (k : Int) < (ns : Int) := by omega
              have i6 : (0 : Int) ≤ (k : Int) := by omega
              have hB : Below wr.heap.size wr wr := Below.refl _ _
              go_upto_region 20 with fail
              have z7 := d7
              have n0 := m0
              have n1 := m1
              have n2 := m2
              have n3 := m3
              have n4 := m4
              go_region_held_law (fun w' => w'.cell? ⟨OB, 7, none⟩ = some (.slice (some ⟨bs, os, none⟩) ns s3) ∧ w'.cell? ⟨bs, os + k * 5, none⟩ = some (.string sm) ∧ w'.cell? ⟨bs, os + k * 5 + 1, none⟩ = some (.int .i64 y1) ∧ w'.cell? ⟨bs, os + k * 5 + 2, none⟩ = some (.int .i64 y2) ∧ w'.cell? ⟨bs, os + k * 5 + 3, none⟩ = some (.string y3) ∧ w'.cell? ⟨bs, os + k * 5 + 4, none⟩ = some (.slice y4 y5 y6))
                ((refine ⟨?_, ?_, ?_, ?_, ?_, ?_⟩ <;> (repeat (first | (with_reducible exact z7) | (with_reducible exact n0) | (with_reducible exact n1) | (with_reducible exact n2) | (with_reducible exact n3) | (with_reducible exact n4) | (with_reducible refine cell_dr ?_))) <;> done))
                (first
                  | (go_at_call 69; (first | (with_reducible refine (hq _ hB).mono ?_) | (with_reducible refine (hq _ hB.drew).mono ?_)); rintro e w1 ⟨rfl, b1⟩; (first | have hB := Below.nxd hB b1 | have hB := Below.nx hB b1); have z7 := (hB.cell (p := ⟨OB, 7, none⟩) hOl).trans d7; have n0 := (hB.cell (p := ⟨bs, os + k * 5, none⟩) hbs2).trans m0; have n1 := (hB.cell (p := ⟨bs, os + k * 5 + 1, none⟩) hbs2).trans m1; have n2 := (hB.cell (p := ⟨bs, os + k * 5 + 2, none⟩) hbs2).trans m2; have n3 := (hB.cell (p := ⟨bs, os + k * 5 + 3, none⟩) hbs2).trans m3; have n4 := (hB.cell (p := ⟨bs, os + k * 5 + 4, none⟩) hbs2).trans m4)
                  | fail)
              all_goals (
                have hbz := hbk.trans (hB.mono hbk.size)
                go_wp2
                go_roundw
                case rel => exact ⟨k + 1, fa, hkl, by go_num, rfl, by show _ = _; rw [HRK.out]; exact FA.out, hbz⟩
                case measure => simp [RowKit.intOf]; omega)
            · have i5 : ¬ (k : Int) < (ns : Int) := by omega
              have HE : Hid (bl fk ++ ([10] ++ RG) = TOT) := by
                show _ = _
                have := HK.out
                rw [List.drop_of_length_le (by rw [HNS.out]; omega)] at this
                exact this
              go_wp2
              go_meet
              case rel => exact ⟨fk, rfl, HE, hbk⟩
        case rest =>
        obtain ⟨f7, rfl, F7, hbd⟩ := hcut
        obtain ⟨f8, F8, r8⟩ := pre_add f7 ⟨#[10]⟩ RG TOT F7.out hlen
        have hXd := hXq.on hbd
        have hbd2 := hbq2.trans (hbd.mono hbq2.size)
        clear F6 F7 HRS hOb2
        go_wp2
        go_roundw
        case rel => exact ⟨g + 1, f8, hgl, by go_num, rfl, by show _ = _; rw [HRG.out]; exact F8.out, hbd2, hXd⟩
        case measure => simp [RowKit.intOf]; omega
      · have i1 : ¬ (g : Int) < (m : Int) := by omega
        have HE : Hid (bl og ++ RIN = TOT) := by
          show _ = _
          have := HG.out
          rw [List.drop_of_length_le (by rw [HM.out]; omega)] at this
          exact this
        go_wp2
        go_meet
        case rel => exact ⟨og, rfl, HE, hbr, hXr⟩
  case rest =>
  obtain ⟨o5, rfl, H5, hb2, hX2⟩ := hcut
  clear H4 hb1 hX1 HRON HON HK4 HC1 HFO HM
  obtain ⟨c9, _⟩ := hX2 10 _ rfl
  go_upto_block 5 with fail
  clear c9
  go_cut [6, 10] from 121 to 133 (fun u6 u10 wd => ∃ o6 : ByteArray, u6 = .string o6 ∧ Hid (bl o6 ++ REND = TOT) ∧ Below w.heap.size w wd)
  case first =>
    go_wp2_with fail
    go_loopw [6, 121] (fun u6 ix wr => ∃ (g : Nat) (og : ByteArray), g ≤ i ∧ ix = .int .i64 (g : Int) ∧ u6 = .string og ∧ Hid (bl og ++ (((t.2.drop g).map (stTd d (n + 1))).flatten ++ REND) = TOT) ∧ Below w.heap.size w wr ∧ Bn wr w.heap.size [.string sn, .int .i64 sl, .int .i64 sc, .bool sb, .bool se, .string sd, .string su, .int .i64 sw, .int .i64 sr, .slice p1 m p3, .slice p4 i p6]) (fun _ ix _ => i - (RowKit.intOf ix).toNat)
    case atStart => exact ⟨0, o5, Nat.zero_le _, rfl, rfl, by show _ = _; rw [List.drop_zero, HRIN.out]; exact H5.out, hb2, hX2⟩
    case round =>
      clear H5 hb2 hX2 HRIN
      obtain ⟨g, og, hg, rfl, rfl, HG, hbr, hXr⟩ := hrel
      by_cases hgl : g < i
      · have hgt : g < t.2.length := by rw [HI.out]; exact hgl
        have HG2 : Hid (bl og ++ (stTd d (n + 1) t.2[g] ++ (((t.2.drop (g + 1)).map (stTd d (n + 1))).flatten ++ REND)) = TOT) := by
          show _ = _
          have := HG.out
          rw [drop_step hgt, List.map_cons, List.flatten_cons, List.append_assoc] at this
          exact this
        clear HG
        obtain ⟨RG, hRG⟩ : ∃ x, ((t.2.drop (g + 1)).map (stTd d (n + 1))).flatten ++ REND = x := ⟨_, rfl⟩
        rw [hRG] at HG2
        have HRG := mkHid hRG
        obtain ⟨TT, hTT1, hTT2, _⟩ := letter_of (stTd d (n + 1) t.2[g])
        have hll : (stTd d (n + 1) t.2[g]).length ≤ 17592186044416 := by
          have := congrArg List.length HG2.out
          simp only [List.length_append] at this
          omega
        obtain ⟨b, off, gn, gl, gc, ga, ge, gd, gu, gw, gr, q1, q2, q3, q4, q5, q6, rfl, g0, g1, g2, g3, g4, g5, g6, g7, g8, g9, g10, hcall⟩ := td_call d IH HIN.out g hgt (HK5.out _ (List.getElem_mem hgt)) (HC2.out _ (List.getElem_mem hgt)) (List.all_eq_true.1 HFI.out _ (List.getElem_mem hgt)) (hT.below hbr (Nat.le_refl _)) (hPw.below hbr) hbr HTI.out hll TT hTT1
        obtain ⟨f1, F1, r1⟩ := pre_add og TT RG TOT (by rw [hTT2]; exact HG2.out) hlen
        clear hRG HG2 hll hTT1 hTT2
        obtain ⟨c9, _⟩ := hXr 10 _ rfl
        have i3 : (g : Int) < (i : Int) := by omega
        have i4 : (0 : Int) ≤ (g : Int) := by omega
        go_wp2_with (first | (go_at_call 39; refine hcall.mono ?_; rintro e w1 ⟨rfl, b1⟩) | fail)
        have hbz := hbr.trans (b1.mono hbr.size)
        have hXz := hXr.on b1
        go_roundw
        case rel => exact ⟨g + 1, f1, hgl, by go_num, rfl, by show _ = _; rw [HRG.out]; exact F1.out, hbz, hXz⟩
        case measure => simp [RowKit.intOf]; omega
      · have i1 : ¬ (g : Int) < (i : Int) := by omega
        have HE : Hid (bl og ++ REND = TOT) := by
          show _ = _
          have := HG.out
          rw [List.drop_of_length_le (by rw [HI.out]; omega)] at this
          exact this
        go_wp2
        go_meet
        case rel => exact ⟨og, rfl, HE, hbr⟩
  case rest =>
  obtain ⟨o6, rfl, H6, hb3⟩ := hcut
  obtain ⟨o7, H7, a7⟩ := pre_add o6 tb [125, 10] TOT (by rw [HTB.out, HREND.out]; exact H6.out) hlen
  obtain ⟨o8, H8, a8⟩ := pre_add o7 ⟨#[125, 10]⟩ [] TOT H7.out hlen
  have e8 : o8 = ⟨TOT.toArray⟩ := ba_bl (by have := H8.out; rw [List.append_nil] at this; exact this)
  have HE8 := mkHid e8
  clear H5 H6 H7 H8 e8 HRIN HREND HIN HK5 HC2 HFI IH hX2
  go_wp2
  go_ret
  exact ⟨congrArg (fun x => Ending.returned (.string x)) HE8.out, hb3⟩
theorem td_any : ∀ d, TdC d
  | 0 => fun _ _ t => Empty.elim t
  | d + 1 => td_step d (td_any d)

def doB (d u : List UInt8) (a r : Int) : List UInt8 := [100, 111, 32] ++ d ++ [32, 117, 110, 100, 111, 32] ++ u ++ [32, 97, 116, 32] ++ dcN a ++ [32, 114, 101, 116, 114, 105, 101, 115, 32] ++ dcN r
set_option maxRecDepth 100000 in
set_option maxHeartbeats 8000000 in
theorem kind_step {B b : Nat} {l : List UInt8} {w : World} (n : Nat) (sn : ByteArray) (sl sc : Int) (sd su : ByteArray) (sw sr : Int) (p1 : Option Addr) (m p3 : Nat) (p4 : Option Addr) (ni p6 : Nat) (h : Wr B b l w) (hB : B ≤ w.heap.size) (hn : n ≤ 1000) (hd : (!sd.toList.isEmpty) = true) (hds : sd.size ≤ 1000) (hus : su.size ≤ 1000) (h1 : 0 ≤ sw ∧ sw ≤ 1000000000) (h2 : 0 ≤ sr ∧ sr ≤ 1000000000) (hp : Pow w) : Calls Tryz.prog 101 #[.pointer (some ⟨b, 0, none⟩), .int .i64 (n : Int), .agg #[.string sn, .int .i64 sl, .int .i64 sc, .bool false, .bool false, .string sd, .string su, .int .i64 sw, .int .i64 sr, .slice p1 m p3, .slice p4 ni p6]] w fun e w' => e = .returned (.tuple #[]) ∧ Wx B b (wlL l n (doB (bl sd) (bl su) sw sr)) w w' := by
  have hal : Below w.heap.size w (w.alloc (.cells #[.string sn, .int .i64 sl, .int .i64 sc, .bool false, .bool false, .string sd, .string su, .int .i64 sw, .int .i64 sr, .slice p1 m p3, .slice p4 ni p6] 49)) := (Below.refl w.heap.size w).alloc (Nat.le_refl _) _
  have hX : Bn (w.alloc (.cells #[.string sn, .int .i64 sl, .int .i64 sc, .bool false, .bool false, .string sd, .string su, .int .i64 sw, .int .i64 sr, .slice p1 m p3, .slice p4 ni p6] 49)) w.heap.size [.string sn, .int .i64 sl, .int .i64 sc, .bool false, .bool false, .string sd, .string su, .int .i64 sw, .int .i64 sr, .slice p1 m p3, .slice p4 ni p6] := Bn.new w [.string sn, .int .i64 sl, .int .i64 sc, .bool false, .bool false, .string sd, .string su, .int .i64 sw, .int .i64 sr, .slice p1 m p3, .slice p4 ni p6] 49 _ rfl
  have hO : (w.alloc (.cells #[.string sn, .int .i64 sl, .int .i64 sc, .bool false, .bool false, .string sd, .string su, .int .i64 sw, .int .i64 sr, .slice p1 m p3, .slice p4 ni p6] 49)).heap[w.heap.size]? = some (.cells #[.string sn, .int .i64 sl, .int .i64 sc, .bool false, .bool false, .string sd, .string su, .int .i64 sw, .int .i64 sr, .slice p1 m p3, .slice p4 ni p6] 49 (0, 0)) := blk_new _ _
  have k0 : Wx B b l w (w.alloc (.cells #[.string sn, .int .i64 sl, .int .i64 sc, .bool false, .bool false, .string sd, .string su, .int .i64 sw, .int .i64 sr, .slice p1 m p3, .slice p4 ni p6] 49)) := ⟨Wr.below h hal, hal.mono hB, others_below hal⟩
  have hbl := h.lt
  have hp1 := hp.below hal
  obtain ⟨t1, ht1, e1, z1⟩ := letter_of (dcN sw)
  obtain ⟨t2, ht2, e2, z2⟩ := letter_of (dcN sr)
  have zz1 := dc_len h1
  have zz2 := dc_len h2
  obtain ⟨x1, q1, s1, a1⟩ := add_ex ⟨#[100, 111, 32]⟩ sd (by show 3 + _ ≤ _; omega)
  have g1 : (⟨#[100, 111, 32]⟩ : ByteArray).size = 3 := rfl
  obtain ⟨x2, q2, s2, a2⟩ := add_ex x1 ⟨#[32, 117, 110, 100, 111, 32]⟩ (by show _ + 6 ≤ _; omega)
  have g2 : (⟨#[32, 117, 110, 100, 111, 32]⟩ : ByteArray).size = 6 := rfl
  obtain ⟨x3, q3, s3, a3⟩ := add_ex x2 su (by omega)
  obtain ⟨x4, q4, s4, a4⟩ := add_ex x3 ⟨#[32, 97, 116, 32]⟩ (by show _ + 4 ≤ _; omega)
  have g4 : (⟨#[32, 97, 116, 32]⟩ : ByteArray).size = 4 := rfl
  obtain ⟨x5, q5, s5, a5⟩ := add_ex x4 t1 (by omega)
  obtain ⟨x6, q6, s6, a6⟩ := add_ex x5 ⟨#[32, 114, 101, 116, 114, 105, 101, 115, 32]⟩ (by show _ + 9 ≤ _; omega)
  have g6 : (⟨#[32, 114, 101, 116, 114, 105, 101, 115, 32]⟩ : ByteArray).size = 9 := rfl
  obtain ⟨x7, q7, s7, a7⟩ := add_ex x6 t2 (by omega)
  have ql : bl x7 = doB (bl sd) (bl su) sw sr := by
    rw [q7, q6, q5, q4, q3, q2, q1, e1, e2]; rfl
  have zl : x7.size ≤ 140737488340000 := by omega
  clear q1 q2 q3 q4 q5 q6 q7 s1 s2 s3 s4 s5 s6 s7 g1 g2 g4 g6 z1 z2 zz1 zz2 e1 e2
  go_enter Tryz.func101, Tryz.ntmps101
  go_upto_region 1 with fail
  generalize (w.alloc (.cells #[.string sn, .int .i64 sl, .int .i64 sc, .bool false, .bool false, .string sd, .string su, .int .i64 sw, .int .i64 sr, .slice p1 m p3, .slice p4 ni p6] 49)) = wx at *
  have i1 : ∀ w1, Below wx.heap.size wx w1 → Calls Tryz.prog 37 #[.int .i64 sw] w1 fun e w' => e = .returned (.string t1) ∧ Below w1.heap.size w1 w' := fun w1 bb => by
    rw [← ht1]; exact itoa_any h1.1 h1.2 w1 (hp1.below bb)
  have i2 : ∀ w1, Below wx.heap.size wx w1 → Calls Tryz.prog 37 #[.int .i64 sr] w1 fun e w' => e = .returned (.string t2) ∧ Below w1.heap.size w1 w' := fun w1 bb => by
    rw [← ht2]; exact itoa_any h2.1 h2.2 w1 (hp1.below bb)
  have hl : ∀ w1, Below wx.heap.size wx w1 → Calls Tryz.prog 62 #[.pointer (some ⟨b, 0, none⟩), .int .i64 (n : Int), .string x7] w1 fun e w' => e = .returned (.tuple #[]) ∧ Wx B b (wlL l n (doB (bl sd) (bl su) sw sr)) w w' ∧ w'.heap[w.heap.size]? = wx.heap[w.heap.size]? := fun w1 bb => by
    have hk := k0.on hB bb
    refine (line_any n x7 hk.1 hn zl (Nat.le_trans hB hk.2.1.size)).mono ?_
    rintro e w' ⟨he, hw⟩
    rw [ql] at hw
    refine ⟨he, hk.trans hw, ?_⟩
    have h3 := bb.block w.heap.size hX.lt
    exact (keepX hw.2.2 (h3.trans hO) (by omega) (by decide)).trans h3
  clear k0 ht1 ht2 ql zl
  have hB : Below wx.heap.size wx wx := Below.refl _ _
  obtain ⟨c3, _⟩ := hX 3 _ rfl
  obtain ⟨c4, _⟩ := hX 4 _ rfl
  obtain ⟨c5, _⟩ := hX 5 _ rfl
  obtain ⟨c6, _⟩ := hX 6 _ rfl
  obtain ⟨c7, _⟩ := hX 7 _ rfl
  obtain ⟨c8, _⟩ := hX 8 _ rfl
  have hlt := hX.lt
  clear h hO hX hp hp1
  obtain ⟨S, hS⟩ : ∃ S, w.heap.size = S := ⟨_, rfl⟩
  rw [hS] at c3 c4 c5 c6 c7 c8 hlt ⊢
  simp only [hS] at hl
  have HS : Hid (w.heap.size = S) := hS
  clear hS hal
  go_upto_region 6 with fail
  have y5 := c5
  have y6 := c6
  have y7 := c7
  have y8 := c8
  go_region_held_law (fun w' => w'.cell? ⟨S, 5, none⟩ = some (.string sd) ∧ w'.cell? ⟨S, 6, none⟩ = some (.string su) ∧ w'.cell? ⟨S, 7, none⟩ = some (.int .i64 sw) ∧ w'.cell? ⟨S, 8, none⟩ = some (.int .i64 sr))
    ((refine ⟨?_, ?_, ?_, ?_⟩ <;> (repeat (first | (with_reducible exact y5) | (with_reducible exact y6) | (with_reducible exact y7) | (with_reducible exact y8) | (with_reducible refine cell_dr ?_))) <;> done))
    (first
      | (go_at_call 37; (first | (with_reducible refine (i1 _ hB).mono ?_) | (with_reducible refine (i1 _ hB.drew).mono ?_)); rintro e w1 ⟨rfl, b1⟩; (first | have hB := Below.nxd hB b1 | have hB := Below.nx hB b1); have y5 := (hB.cell (p := ⟨S, 5, none⟩) hlt).trans c5; have y6 := (hB.cell (p := ⟨S, 6, none⟩) hlt).trans c6; have y7 := (hB.cell (p := ⟨S, 7, none⟩) hlt).trans c7; have y8 := (hB.cell (p := ⟨S, 8, none⟩) hlt).trans c8)
      | (go_at_call 37; (first | (with_reducible refine (i2 _ hB).mono ?_) | (with_reducible refine (i2 _ hB.drew).mono ?_)); rintro e w1 ⟨rfl, b1⟩; (first | have hB := Below.nxd hB b1 | have hB := Below.nx hB b1); have y5 := (hB.cell (p := ⟨S, 5, none⟩) hlt).trans c5; have y6 := (hB.cell (p := ⟨S, 6, none⟩) hlt).trans c6; have y7 := (hB.cell (p := ⟨S, 7, none⟩) hlt).trans c7; have y8 := (hB.cell (p := ⟨S, 8, none⟩) hlt).trans c8)
      | (go_at_call 62; (first | (with_reducible refine (hl _ hB).mono ?_) | (with_reducible refine (hl _ hB.drew).mono ?_)); rintro e w1 ⟨rfl, k, kb⟩; have y5 := keep_cell (p := ⟨S, 5, none⟩) kb c5; have y6 := keep_cell (p := ⟨S, 6, none⟩) kb c6; have y7 := keep_cell (p := ⟨S, 7, none⟩) kb c7; have y8 := keep_cell (p := ⟨S, 8, none⟩) kb c8)
      | fail)
  all_goals (
    go_wp2
    go_end0
    exact ⟨rfl, k⟩)

def onH (n : Nat) (ev : List UInt8) (G : List (List UInt8)) (tg : List UInt8) : List (List UInt8) := [List.replicate n 9, [111, 110, 32] ++ ev] ++ (G ++ [[32, 103, 111, 32] ++ tg])
def onL (n : Nat) (ev : List UInt8) (G : List (List UInt8)) (tg : List UInt8) (ss : List (List UInt8)) : List (List UInt8) := [List.replicate n 9, [111, 110, 32] ++ ev] ++ (G ++ ([[32, 103, 111, 32] ++ tg] ++ (ss ++ [[10]])))
/-- A set that has a text. -/
def SetW (s : List UInt8 × Sx) : Prop := s.1.length ≤ 1000 ∧ (∃ u y, exX s.2 = .iface u y) ∧ (exW s.2).length ≤ 4000 ∧ ∀ w, Pow w → Calls Tryz.prog 137 #[exX s.2] w fun e w' => e = .returned (.string ⟨(exW s.2).toArray⟩) ∧ Below w.heap.size w w'
theorem setB_at {B : Nat} {w : World} {l : List (List UInt8 × Sx)} {a : Option Addr} {n cap : Nat} (h : RdK (fun x => x < B) w 2 (rSet (fun x => x < B) w) l (.slice a n cap)) (j : Nat) (hj : j < l.length) : ∃ b off, a = some ⟨b, off, none⟩ ∧ b < B ∧ ∀ i u, [sV l[j].1, exX l[j].2][i]? = some u → w.cell? ⟨b, off + j * 2 + i, none⟩ = some u := by
  obtain ⟨a1, cap1, he, h1, h2, h3⟩ := h
  simp only [Value.slice.injEq] at he
  obtain ⟨rfl, rfl, rfl⟩ := he
  obtain ⟨b, off, cs, ha, hb, _, hl, hr, hc⟩ := h3 j hj
  have hr : cs = _ := hr
  subst hr
  exact ⟨b, off, ha, hb, hc⟩
set_option maxRecDepth 100000 in
set_option maxHeartbeats 16000000 in
theorem on_nil {B b : Nat} {l : List UInt8} {w : World} (n : Nat) (ev tg : ByteArray) (s1 : Option Addr) (ns s3 : Nat) (ol oc : Int) (ss : List (List UInt8 × Sx)) (h : Wr B b l w) (hB : B ≤ w.heap.size) (hn : n ≤ 1000) (hev : ev.size ≤ 1000) (htg : tg.size ≤ 1000) (hs : RdK (fun x => x < B) w 2 (rSet (fun x => x < B) w) ss (.slice s1 ns s3)) (hns : ss.length = ns) (hok : ∀ s ∈ ss, SetW s) (hp : ∀ w1, Below B w w1 → Pow w1) :
    Calls Tryz.prog 102 #[.pointer (some ⟨b, 0, none⟩), .int .i64 (n : Int), .agg #[.string ev, .nilIface, .string tg, .slice s1 ns s3, .int .i64 ol, .int .i64 oc]] w fun e w' => e = .returned (.tuple #[]) ∧ Wx B b ((onL n (bl ev) [] (bl tg) (ss.map setW)).foldl wpL l) w w' := by
  have hal : Below w.heap.size w (w.alloc (.cells #[.string ev, .nilIface, .string tg, .slice s1 ns s3, .int .i64 ol, .int .i64 oc] 115)) := (Below.refl w.heap.size w).alloc (Nat.le_refl _) _
  have hX : Bn (w.alloc (.cells #[.string ev, .nilIface, .string tg, .slice s1 ns s3, .int .i64 ol, .int .i64 oc] 115)) w.heap.size [.string ev, .nilIface, .string tg, .slice s1 ns s3, .int .i64 ol, .int .i64 oc] := Bn.new w [.string ev, .nilIface, .string tg, .slice s1 ns s3, .int .i64 ol, .int .i64 oc] 115 _ rfl
  have hO : (w.alloc (.cells #[.string ev, .nilIface, .string tg, .slice s1 ns s3, .int .i64 ol, .int .i64 oc] 115)).heap[w.heap.size]? = some (.cells #[.string ev, .nilIface, .string tg, .slice s1 ns s3, .int .i64 ol, .int .i64 oc] 115 (0, 0)) := blk_new _ _
  have k : Wx B b l (w.alloc (.cells #[.string ev, .nilIface, .string tg, .slice s1 ns s3, .int .i64 ol, .int .i64 oc] 115)) (w.alloc (.cells #[.string ev, .nilIface, .string tg, .slice s1 ns s3, .int .i64 ol, .int .i64 oc] 115)) := ⟨Wr.below h hal, Below.refl _ _, Lib.OthersKept.refl _ _ _⟩
  have hbl := h.lt
  have hBx : B ≤ (w.alloc (.cells #[.string ev, .nilIface, .string tg, .slice s1 ns s3, .int .i64 ol, .int .i64 oc] 115)).heap.size := Nat.le_trans hB hal.size
  have hPW : Hid (∀ w1, Below B (w.alloc (.cells #[.string ev, .nilIface, .string tg, .slice s1 ns s3, .int .i64 ol, .int .i64 oc] 115)) w1 → Pow w1) := fun w1 bb => hp w1 ((hal.mono hB).trans bb)
  have hsx := hs.stay kp_set (ok' := fun x => x < B) (w' := (w.alloc (.cells #[.string ev, .nilIface, .string tg, .slice s1 ns s3, .int .i64 ol, .int .i64 oc] 115))) (fun x hx hl => ⟨hx, hal.block x hl⟩)
  obtain ⟨x1, q1, z1, a1⟩ := add_ex ⟨#[111, 110, 32]⟩ ev (by show 3 + _ ≤ _; omega)
  have g1 : (⟨#[111, 110, 32]⟩ : ByteArray).size = 3 := rfl
  have zl1 : x1.size ≤ 140737488340000 := by omega
  obtain ⟨x3, q3, z3, a3⟩ := add_ex ⟨#[32, 103, 111, 32]⟩ tg (by show 4 + _ ≤ _; omega)
  have g3 : (⟨#[32, 103, 111, 32]⟩ : ByteArray).size = 4 := rfl
  have zl3 : x3.size ≤ 140737488340000 := by omega
  have zl4 : (⟨#[10]⟩ : ByteArray).size ≤ 140737488340000 := by decide
  obtain ⟨_, _, he, hcap, hcm⟩ := hs.form
  simp only [Value.slice.injEq] at he
  obtain ⟨rfl, hx0, rfl⟩ := he
  clear hx0
  rw [hns] at hcap
  unfold maxLen at hcm
  have hfin : Hid (∀ L w', L = (onL n (bl ev) [] (bl tg) (ss.map setW)).foldl wpL l → Wx B b L (w.alloc (.cells #[.string ev, .nilIface, .string tg, .slice s1 ns s3, .int .i64 ol, .int .i64 oc] 115)) w' → Wx B b ((onL n (bl ev) [] (bl tg) (ss.map setW)).foldl wpL l) w w') := fun L w' e k => by
    rw [← e]
    exact ⟨k.1, (hal.mono hB).trans k.2.1, (others_below hal).trans k.2.2⟩
  have hpre : wpL (wpL (wpL l (List.replicate n 9)) (bl x1)) (bl x3) = (onH n (bl ev) [] (bl tg)).foldl wpL l := by rw [q1, q3]; rfl
  have HPRE := mkHid hpre
  have HK := mkHid hok
  have HSX := mkHid hsx
  have HN : Hid (ss.length = ns) := hns
  clear h hs hp hsx hok hns hpre q1 q3 z1 z3 g1 g3
  go_enter Tryz.func102, Tryz.ntmps102
  go_upto_region 1 with fail
  generalize (w.alloc (.cells #[.string ev, .nilIface, .string tg, .slice s1 ns s3, .int .i64 ol, .int .i64 oc] 115)) = wx at *
  obtain ⟨c0, _⟩ := hX 0 _ rfl
  obtain ⟨c1, _⟩ := hX 1 _ rfl
  obtain ⟨c2, _⟩ := hX 2 _ rfl
  obtain ⟨c3, _⟩ := hX 3 _ rfl
  have hlt := hX.lt
  have hbS : b ≠ w.heap.size := by omega
  clear hal
  obtain ⟨S, hS⟩ : ∃ S, w.heap.size = S := ⟨_, rfl⟩
  rw [hS] at c0 c1 c2 c3 hlt hO hbS ⊢
  clear hX hbl hB hS
  have hbeg := beginX hBx n l wx k hn
  have hput := fun t l' w1 k ht => putX (B := B) (b := b) (w := wx) hBx t l' w1 k ht
  clear k
  go_wp2_with (first
    | (go_at_call 99; go_loud (refine hbeg.mono ?_; rintro e w1 ⟨rfl, k⟩; have y0 := keep_cell (p := ⟨S, 0, none⟩) (keepX k.2.2 hO hbS (by decide)) c0; have y1 := keep_cell (p := ⟨S, 1, none⟩) (keepX k.2.2 hO hbS (by decide)) c1; have y2 := keep_cell (p := ⟨S, 2, none⟩) (keepX k.2.2 hO hbS (by decide)) c2; have y3 := keep_cell (p := ⟨S, 3, none⟩) (keepX k.2.2 hO hbS (by decide)) c3))
    | (go_at_call 100; refine (hput _ _ _ k (by assumption)).mono ?_; clear k; rintro e w2 ⟨rfl, k⟩; have y0 := keep_cell (p := ⟨S, 0, none⟩) (keepX k.2.2 hO hbS (by decide)) c0; have y1 := keep_cell (p := ⟨S, 1, none⟩) (keepX k.2.2 hO hbS (by decide)) c1; have y2 := keep_cell (p := ⟨S, 2, none⟩) (keepX k.2.2 hO hbS (by decide)) c2; have y3 := keep_cell (p := ⟨S, 3, none⟩) (keepX k.2.2 hO hbS (by decide)) c3)
    | fail)
  rw [HPRE.out] at k
  obtain ⟨L, hL⟩ : ∃ L, (onH n (bl ev) [] (bl tg)).foldl wpL l = L := ⟨_, rfl⟩
  rw [hL] at k
  have HL := mkHid hL
  clear hL hbeg
  go_loopw [33] (fun ix wr => ∃ (i : Nat), i ≤ ns ∧ ix = .int .i64 (i : Int) ∧ Wx B b (((ss.take i).map setW).foldl wpL L) wx wr) (fun ix _ => ns - (RowKit.intOf ix).toNat)
  case atStart => exact ⟨0, Nat.zero_le _, rfl, k⟩
  case round =>
    clear k
    obtain ⟨i, hi, rfl, k⟩ := hrel
    by_cases hlti : i < ns
    · have hil : i < ss.length := by rw [HN.out]; exact hlti
      obtain ⟨bb, off, rfl, hbb, hc⟩ := setB_at HSX.out i hil
      obtain ⟨hk1, ⟨tu, ty, hk2⟩, hk3, hk4⟩ := HK.out _ (List.getElem_mem hil)
      have htk : ((ss.take (i + 1)).map setW).foldl wpL L = wpL (((ss.take i).map setW).foldl wpL L) (setW ss[i]) := by
        rw [List.take_succ_eq_append_getElem hil, List.map_append, List.foldl_append]; rfl
      obtain ⟨q, hq⟩ : ∃ q, ss[i] = q := ⟨_, rfl⟩
      rw [hq] at hc hk1 hk2 hk3 hk4 htk
      obtain ⟨s0, hs0, e0, z0⟩ := letter_of q.1
      obtain ⟨tx', hs2, e2', z2'⟩ := letter_of (exW q.2)
      have e3 : [sV q.1, exX q.2] = [.string s0, .iface tu ty] := by unfold sV; rw [hs0, hk2]
      rw [e3] at hc
      rw [hk2, hs2] at hk4
      obtain ⟨u1, r1, v1, d1⟩ := add_ex ⟨#[32, 115, 101, 116, 32]⟩ s0 (by show 5 + _ ≤ _; omega)
      have f1 : (⟨#[32, 115, 101, 116, 32]⟩ : ByteArray).size = 5 := rfl
      obtain ⟨u2, r2, v2, d2⟩ := add_ex u1 ⟨#[32, 61, 32]⟩ (by show _ + 3 ≤ _; omega)
      have f2 : (⟨#[32, 61, 32]⟩ : ByteArray).size = 3 := rfl
      obtain ⟨u3, r3, v3, d3⟩ := add_ex u2 tx' (by omega)
      have zu : u3.size ≤ 140737488340000 := by omega
      have hu : bl u3 = setW q := by rw [r3, r2, r1, e0, e2']; rfl
      rw [← hu] at htk
      have HTK := mkHid htk
      clear r1 r2 r3 v1 v2 v3 f1 f2 e0 z0 e2' z2' hk1 hk2 hk3 hs0 hs2 e3 hu htk hq
      have i1 : (i : Int) < (ns : Int) := by omega
      have i2 : (0 : Int) ≤ (i : Int) := by omega
      have C0 := (k.2.1.cell (p := ⟨bb, off + i * 2 + 0, none⟩) hbb).trans (hc 0 _ rfl)
      have C1 := (k.2.1.cell (p := ⟨bb, off + i * 2 + 1, none⟩) hbb).trans (hc 1 _ rfl)
      rw [Nat.add_zero] at C0
      clear hc
      generalize ((ss.take i).map setW).foldl wpL L = L1 at *
      have hal : Below wr.heap.size wr (wr.alloc (.cells #[.string s0, .iface tu ty] 118)) := (Below.refl _ _).alloc (Nat.le_refl _) _
      have hX : Bn (wr.alloc (.cells #[.string s0, .iface tu ty] 118)) wr.heap.size [.string s0, .iface tu ty] := Bn.new wr [.string s0, .iface tu ty] 118 _ rfl
      have hOs : (wr.alloc (.cells #[.string s0, .iface tu ty] 118)).heap[wr.heap.size]? = some (.cells #[.string s0, .iface tu ty] 118 (0, 0)) := blk_new _ _
      have hbR : b ≠ wr.heap.size := Nat.ne_of_lt k.1.lt
      have kx := k.on hBx hal
      go_upto_region 9 with fail
      clear C0 C1
      generalize (wr.alloc (.cells #[.string s0, .iface tu ty] 118)) = wy at *
      have hpt : ∀ w1, Below wy.heap.size wy w1 → Calls Tryz.prog 100 #[.pointer (some ⟨b, 0, none⟩), .string u3] w1 fun e w' => e = .returned (.tuple #[]) ∧ Wx B b (wpL L1 (bl u3)) wx w' ∧ w'.heap[wr.heap.size]? = wy.heap[wr.heap.size]? := fun w1 b1 => by
        have hk := kx.on hBx b1
        refine (put_any u3 hk.1 zu (Nat.le_trans hBx hk.2.1.size)).mono ?_
        rintro e w' ⟨he, hw⟩
        have h3 := b1.block wr.heap.size hX.lt
        exact ⟨he, hk.trans hw, (keepX hw.2.2 (h3.trans hOs) hbR (by decide)).trans h3⟩
      have htx : ∀ w1, Below wy.heap.size wy w1 → Calls Tryz.prog 137 #[.iface tu ty] w1 fun e w' => e = .returned (.string tx') ∧ Below w1.heap.size w1 w' := fun w1 b1 => hk4 w1 (hPW.out _ (kx.on hBx b1).2.1)
      obtain ⟨c0, _⟩ := hX 0 _ rfl
      obtain ⟨c1, _⟩ := hX 1 _ rfl
      have hlr := hX.lt
      obtain ⟨R, hR⟩ : ∃ R, wr.heap.size = R := ⟨_, rfl⟩
      rw [hR] at c0 c1 hlr ⊢
      simp only [hR] at hpt
      clear k kx hX hOs hal hk4 hput hR
      have hB : Below wy.heap.size wy wy := Below.refl _ _
      have y0 := c0
      have y1 := c1
      go_region_held_law (fun w' => w'.cell? ⟨R, 0, none⟩ = some (.string s0) ∧ w'.cell? ⟨R, 1, none⟩ = some (.iface tu ty))
        ((refine ⟨?_, ?_⟩ <;> (repeat (first | (with_reducible exact y0) | (with_reducible exact y1) | (with_reducible refine cell_dr ?_))) <;> done))
        (first
          | (go_at_call 137; (first | (with_reducible refine (htx _ hB).mono ?_) | (with_reducible refine (htx _ hB.drew).mono ?_)); rintro e w1 ⟨rfl, b1⟩; (first | have hB := Below.nxd hB b1 | have hB := Below.nx hB b1); have y0 := (hB.cell (p := ⟨R, 0, none⟩) hlr).trans c0; have y1 := (hB.cell (p := ⟨R, 1, none⟩) hlr).trans c1)
          | (go_at_call 100; (first | (with_reducible refine (hpt _ hB).mono ?_) | (with_reducible refine (hpt _ hB.drew).mono ?_)); rintro e w1 ⟨rfl, k, kb⟩; have y0 := keep_cell (p := ⟨R, 0, none⟩) kb c0; have y1 := keep_cell (p := ⟨R, 1, none⟩) kb c1)
          | fail)
      all_goals (
        rw [← HTK.out] at k
        go_wp2
        go_roundw
        case rel => exact ⟨i + 1, hlti, by go_num, k⟩
        case measure => simp [RowKit.intOf]; omega)
    · have i1 : ¬ (i : Int) < (ns : Int) := by omega
      have hie : ss.take i = ss := List.take_of_length_le (by rw [HN.out]; omega)
      rw [hie] at k
      go_wp2_with (first
        | (go_at_call 100; refine (hput _ _ _ k (by assumption)).mono ?_; clear k; rintro e w2 ⟨rfl, k⟩)
        | fail)
      go_end0
      refine ⟨rfl, hfin.out _ _ ?_ k⟩
      rw [← HL.out]
      unfold onL onH
      simp only [List.foldl_append]
      rfl
set_option maxRecDepth 100000 in
set_option maxHeartbeats 16000000 in
theorem on_ifc {B b : Nat} {l : List UInt8} {w : World} (n : Nat) (ev tg : ByteArray) (gu : TypeId) (gy : Value) (tx : ByteArray) (s1 : Option Addr) (ns s3 : Nat) (ol oc : Int) (ss : List (List UInt8 × Sx)) (h : Wr B b l w) (hB : B ≤ w.heap.size) (hn : n ≤ 1000) (hev : ev.size ≤ 1000) (htg : tg.size ≤ 1000) (htx : tx.size ≤ 4000) (ht : ∀ w1, Pow w1 → Calls Tryz.prog 137 #[.iface gu gy] w1 fun e w' => e = .returned (.string tx) ∧ Below w1.heap.size w1 w') (hs : RdK (fun x => x < B) w 2 (rSet (fun x => x < B) w) ss (.slice s1 ns s3)) (hns : ss.length = ns) (hok : ∀ s ∈ ss, SetW s) (hp : ∀ w1, Below B w w1 → Pow w1) :
    Calls Tryz.prog 102 #[.pointer (some ⟨b, 0, none⟩), .int .i64 (n : Int), .agg #[.string ev, .iface gu gy, .string tg, .slice s1 ns s3, .int .i64 ol, .int .i64 oc]] w fun e w' => e = .returned (.tuple #[]) ∧ Wx B b ((onL n (bl ev) [[32, 105, 102, 32] ++ bl tx] (bl tg) (ss.map setW)).foldl wpL l) w w' := by
  have hal : Below w.heap.size w (w.alloc (.cells #[.string ev, .iface gu gy, .string tg, .slice s1 ns s3, .int .i64 ol, .int .i64 oc] 115)) := (Below.refl w.heap.size w).alloc (Nat.le_refl _) _
  have hX : Bn (w.alloc (.cells #[.string ev, .iface gu gy, .string tg, .slice s1 ns s3, .int .i64 ol, .int .i64 oc] 115)) w.heap.size [.string ev, .iface gu gy, .string tg, .slice s1 ns s3, .int .i64 ol, .int .i64 oc] := Bn.new w [.string ev, .iface gu gy, .string tg, .slice s1 ns s3, .int .i64 ol, .int .i64 oc] 115 _ rfl
  have hO : (w.alloc (.cells #[.string ev, .iface gu gy, .string tg, .slice s1 ns s3, .int .i64 ol, .int .i64 oc] 115)).heap[w.heap.size]? = some (.cells #[.string ev, .iface gu gy, .string tg, .slice s1 ns s3, .int .i64 ol, .int .i64 oc] 115 (0, 0)) := blk_new _ _
  have k : Wx B b l (w.alloc (.cells #[.string ev, .iface gu gy, .string tg, .slice s1 ns s3, .int .i64 ol, .int .i64 oc] 115)) (w.alloc (.cells #[.string ev, .iface gu gy, .string tg, .slice s1 ns s3, .int .i64 ol, .int .i64 oc] 115)) := ⟨Wr.below h hal, Below.refl _ _, Lib.OthersKept.refl _ _ _⟩
  have hbl := h.lt
  have hBx : B ≤ (w.alloc (.cells #[.string ev, .iface gu gy, .string tg, .slice s1 ns s3, .int .i64 ol, .int .i64 oc] 115)).heap.size := Nat.le_trans hB hal.size
  have hPW : Hid (∀ w1, Below B (w.alloc (.cells #[.string ev, .iface gu gy, .string tg, .slice s1 ns s3, .int .i64 ol, .int .i64 oc] 115)) w1 → Pow w1) := fun w1 bb => hp w1 ((hal.mono hB).trans bb)
  have hsx := hs.stay kp_set (ok' := fun x => x < B) (w' := (w.alloc (.cells #[.string ev, .iface gu gy, .string tg, .slice s1 ns s3, .int .i64 ol, .int .i64 oc] 115))) (fun x hx hl => ⟨hx, hal.block x hl⟩)
  obtain ⟨x1, q1, z1, a1⟩ := add_ex ⟨#[111, 110, 32]⟩ ev (by show 3 + _ ≤ _; omega)
  have g1 : (⟨#[111, 110, 32]⟩ : ByteArray).size = 3 := rfl
  have zl1 : x1.size ≤ 140737488340000 := by omega
  obtain ⟨x2, q2, z2, a2⟩ := add_ex ⟨#[32, 105, 102, 32]⟩ tx (by show 4 + _ ≤ _; omega)
  have g2 : (⟨#[32, 105, 102, 32]⟩ : ByteArray).size = 4 := rfl
  have zl2 : x2.size ≤ 140737488340000 := by omega
  obtain ⟨x3, q3, z3, a3⟩ := add_ex ⟨#[32, 103, 111, 32]⟩ tg (by show 4 + _ ≤ _; omega)
  have g3 : (⟨#[32, 103, 111, 32]⟩ : ByteArray).size = 4 := rfl
  have zl3 : x3.size ≤ 140737488340000 := by omega
  have zl4 : (⟨#[10]⟩ : ByteArray).size ≤ 140737488340000 := by decide
  obtain ⟨_, _, he, hcap, hcm⟩ := hs.form
  simp only [Value.slice.injEq] at he
  obtain ⟨rfl, hx0, rfl⟩ := he
  clear hx0
  rw [hns] at hcap
  unfold maxLen at hcm
  have hfin : Hid (∀ L w', L = (onL n (bl ev) [[32, 105, 102, 32] ++ bl tx] (bl tg) (ss.map setW)).foldl wpL l → Wx B b L (w.alloc (.cells #[.string ev, .iface gu gy, .string tg, .slice s1 ns s3, .int .i64 ol, .int .i64 oc] 115)) w' → Wx B b ((onL n (bl ev) [[32, 105, 102, 32] ++ bl tx] (bl tg) (ss.map setW)).foldl wpL l) w w') := fun L w' e k => by
    rw [← e]
    exact ⟨k.1, (hal.mono hB).trans k.2.1, (others_below hal).trans k.2.2⟩
  have hpre : wpL (wpL (wpL (wpL l (List.replicate n 9)) (bl x1)) (bl x2)) (bl x3) = (onH n (bl ev) [[32, 105, 102, 32] ++ bl tx] (bl tg)).foldl wpL l := by rw [q1, q2, q3]; rfl
  have HPRE := mkHid hpre
  have HK := mkHid hok
  have HSX := mkHid hsx
  have HN : Hid (ss.length = ns) := hns
  clear h hs hp hsx hok hns hpre q1 q2 q3 z1 z2 z3 g1 g2 g3
  go_enter Tryz.func102, Tryz.ntmps102
  go_upto_region 1 with fail
  generalize (w.alloc (.cells #[.string ev, .iface gu gy, .string tg, .slice s1 ns s3, .int .i64 ol, .int .i64 oc] 115)) = wx at *
  obtain ⟨c0, _⟩ := hX 0 _ rfl
  obtain ⟨c1, _⟩ := hX 1 _ rfl
  obtain ⟨c2, _⟩ := hX 2 _ rfl
  obtain ⟨c3, _⟩ := hX 3 _ rfl
  have hlt := hX.lt
  have hbS : b ≠ w.heap.size := by omega
  clear hal
  obtain ⟨S, hS⟩ : ∃ S, w.heap.size = S := ⟨_, rfl⟩
  rw [hS] at c0 c1 c2 c3 hlt hO hbS ⊢
  clear hX hbl hB hS
  have hbeg := beginX hBx n l wx k hn
  have hput := fun t l' w1 k ht => putX (B := B) (b := b) (w := wx) hBx t l' w1 k ht
  clear k
  go_wp2_with (first
    | (go_at_call 99; go_loud (refine hbeg.mono ?_; rintro e w1 ⟨rfl, k⟩; have y0 := keep_cell (p := ⟨S, 0, none⟩) (keepX k.2.2 hO hbS (by decide)) c0; have y1 := keep_cell (p := ⟨S, 1, none⟩) (keepX k.2.2 hO hbS (by decide)) c1; have y2 := keep_cell (p := ⟨S, 2, none⟩) (keepX k.2.2 hO hbS (by decide)) c2; have y3 := keep_cell (p := ⟨S, 3, none⟩) (keepX k.2.2 hO hbS (by decide)) c3))
    | (go_at_call 100; refine (hput _ _ _ k (by assumption)).mono ?_; clear k; rintro e w2 ⟨rfl, k⟩; have y0 := keep_cell (p := ⟨S, 0, none⟩) (keepX k.2.2 hO hbS (by decide)) c0; have y1 := keep_cell (p := ⟨S, 1, none⟩) (keepX k.2.2 hO hbS (by decide)) c1; have y2 := keep_cell (p := ⟨S, 2, none⟩) (keepX k.2.2 hO hbS (by decide)) c2; have y3 := keep_cell (p := ⟨S, 3, none⟩) (keepX k.2.2 hO hbS (by decide)) c3)
    | (go_at_call 137; refine (ht _ (hPW.out _ k.2.1)).mono ?_; rintro e w3 ⟨rfl, b3⟩; have k := k.on hBx b3; have y0 := keep_cell (p := ⟨S, 0, none⟩) (keepX k.2.2 hO hbS (by decide)) c0; have y1 := keep_cell (p := ⟨S, 1, none⟩) (keepX k.2.2 hO hbS (by decide)) c1; have y2 := keep_cell (p := ⟨S, 2, none⟩) (keepX k.2.2 hO hbS (by decide)) c2; have y3 := keep_cell (p := ⟨S, 3, none⟩) (keepX k.2.2 hO hbS (by decide)) c3)
    | fail)
  rw [HPRE.out] at k
  obtain ⟨L, hL⟩ : ∃ L, (onH n (bl ev) [[32, 105, 102, 32] ++ bl tx] (bl tg)).foldl wpL l = L := ⟨_, rfl⟩
  rw [hL] at k
  have HL := mkHid hL
  clear hL hbeg
  go_loopw [33] (fun ix wr => ∃ (i : Nat), i ≤ ns ∧ ix = .int .i64 (i : Int) ∧ Wx B b (((ss.take i).map setW).foldl wpL L) wx wr) (fun ix _ => ns - (RowKit.intOf ix).toNat)
  case atStart => exact ⟨0, Nat.zero_le _, rfl, k⟩
  case round =>
    clear k
    obtain ⟨i, hi, rfl, k⟩ := hrel
    by_cases hlti : i < ns
    · have hil : i < ss.length := by rw [HN.out]; exact hlti
      obtain ⟨bb, off, rfl, hbb, hc⟩ := setB_at HSX.out i hil
      obtain ⟨hk1, ⟨tu, ty, hk2⟩, hk3, hk4⟩ := HK.out _ (List.getElem_mem hil)
      have htk : ((ss.take (i + 1)).map setW).foldl wpL L = wpL (((ss.take i).map setW).foldl wpL L) (setW ss[i]) := by
        rw [List.take_succ_eq_append_getElem hil, List.map_append, List.foldl_append]; rfl
      obtain ⟨q, hq⟩ : ∃ q, ss[i] = q := ⟨_, rfl⟩
      rw [hq] at hc hk1 hk2 hk3 hk4 htk
      obtain ⟨s0, hs0, e0, z0⟩ := letter_of q.1
      obtain ⟨tx', hs2, e2', z2'⟩ := letter_of (exW q.2)
      have e3 : [sV q.1, exX q.2] = [.string s0, .iface tu ty] := by unfold sV; rw [hs0, hk2]
      rw [e3] at hc
      rw [hk2, hs2] at hk4
      obtain ⟨u1, r1, v1, d1⟩ := add_ex ⟨#[32, 115, 101, 116, 32]⟩ s0 (by show 5 + _ ≤ _; omega)
      have f1 : (⟨#[32, 115, 101, 116, 32]⟩ : ByteArray).size = 5 := rfl
      obtain ⟨u2, r2, v2, d2⟩ := add_ex u1 ⟨#[32, 61, 32]⟩ (by show _ + 3 ≤ _; omega)
      have f2 : (⟨#[32, 61, 32]⟩ : ByteArray).size = 3 := rfl
      obtain ⟨u3, r3, v3, d3⟩ := add_ex u2 tx' (by omega)
      have zu : u3.size ≤ 140737488340000 := by omega
      have hu : bl u3 = setW q := by rw [r3, r2, r1, e0, e2']; rfl
      rw [← hu] at htk
      have HTK := mkHid htk
      clear r1 r2 r3 v1 v2 v3 f1 f2 e0 z0 e2' z2' hk1 hk2 hk3 hs0 hs2 e3 hu htk hq
      have i1 : (i : Int) < (ns : Int) := by omega
      have i2 : (0 : Int) ≤ (i : Int) := by omega
      have C0 := (k.2.1.cell (p := ⟨bb, off + i * 2 + 0, none⟩) hbb).trans (hc 0 _ rfl)
      have C1 := (k.2.1.cell (p := ⟨bb, off + i * 2 + 1, none⟩) hbb).trans (hc 1 _ rfl)
      rw [Nat.add_zero] at C0
      clear hc
      generalize ((ss.take i).map setW).foldl wpL L = L1 at *
      have hal : Below wr.heap.size wr (wr.alloc (.cells #[.string s0, .iface tu ty] 118)) := (Below.refl _ _).alloc (Nat.le_refl _) _
      have hX : Bn (wr.alloc (.cells #[.string s0, .iface tu ty] 118)) wr.heap.size [.string s0, .iface tu ty] := Bn.new wr [.string s0, .iface tu ty] 118 _ rfl
      have hOs : (wr.alloc (.cells #[.string s0, .iface tu ty] 118)).heap[wr.heap.size]? = some (.cells #[.string s0, .iface tu ty] 118 (0, 0)) := blk_new _ _
      have hbR : b ≠ wr.heap.size := Nat.ne_of_lt k.1.lt
      have kx := k.on hBx hal
      go_upto_region 9 with fail
      clear C0 C1
      generalize (wr.alloc (.cells #[.string s0, .iface tu ty] 118)) = wy at *
      have hpt : ∀ w1, Below wy.heap.size wy w1 → Calls Tryz.prog 100 #[.pointer (some ⟨b, 0, none⟩), .string u3] w1 fun e w' => e = .returned (.tuple #[]) ∧ Wx B b (wpL L1 (bl u3)) wx w' ∧ w'.heap[wr.heap.size]? = wy.heap[wr.heap.size]? := fun w1 b1 => by
        have hk := kx.on hBx b1
        refine (put_any u3 hk.1 zu (Nat.le_trans hBx hk.2.1.size)).mono ?_
        rintro e w' ⟨he, hw⟩
        have h3 := b1.block wr.heap.size hX.lt
        exact ⟨he, hk.trans hw, (keepX hw.2.2 (h3.trans hOs) hbR (by decide)).trans h3⟩
      have htx : ∀ w1, Below wy.heap.size wy w1 → Calls Tryz.prog 137 #[.iface tu ty] w1 fun e w' => e = .returned (.string tx') ∧ Below w1.heap.size w1 w' := fun w1 b1 => hk4 w1 (hPW.out _ (kx.on hBx b1).2.1)
      obtain ⟨c0, _⟩ := hX 0 _ rfl
      obtain ⟨c1, _⟩ := hX 1 _ rfl
      have hlr := hX.lt
      obtain ⟨R, hR⟩ : ∃ R, wr.heap.size = R := ⟨_, rfl⟩
      rw [hR] at c0 c1 hlr ⊢
      simp only [hR] at hpt
      clear k kx hX hOs hal hk4 hput hR
      have hB : Below wy.heap.size wy wy := Below.refl _ _
      have y0 := c0
      have y1 := c1
      go_region_held_law (fun w' => w'.cell? ⟨R, 0, none⟩ = some (.string s0) ∧ w'.cell? ⟨R, 1, none⟩ = some (.iface tu ty))
        ((refine ⟨?_, ?_⟩ <;> (repeat (first | (with_reducible exact y0) | (with_reducible exact y1) | (with_reducible refine cell_dr ?_))) <;> done))
        (first
          | (go_at_call 137; (first | (with_reducible refine (htx _ hB).mono ?_) | (with_reducible refine (htx _ hB.drew).mono ?_)); rintro e w1 ⟨rfl, b1⟩; (first | have hB := Below.nxd hB b1 | have hB := Below.nx hB b1); have y0 := (hB.cell (p := ⟨R, 0, none⟩) hlr).trans c0; have y1 := (hB.cell (p := ⟨R, 1, none⟩) hlr).trans c1)
          | (go_at_call 100; (first | (with_reducible refine (hpt _ hB).mono ?_) | (with_reducible refine (hpt _ hB.drew).mono ?_)); rintro e w1 ⟨rfl, k, kb⟩; have y0 := keep_cell (p := ⟨R, 0, none⟩) kb c0; have y1 := keep_cell (p := ⟨R, 1, none⟩) kb c1)
          | fail)
      all_goals (
        rw [← HTK.out] at k
        go_wp2
        go_roundw
        case rel => exact ⟨i + 1, hlti, by go_num, k⟩
        case measure => simp [RowKit.intOf]; omega)
    · have i1 : ¬ (i : Int) < (ns : Int) := by omega
      have hie : ss.take i = ss := List.take_of_length_le (by rw [HN.out]; omega)
      rw [hie] at k
      go_wp2_with (first
        | (go_at_call 100; refine (hput _ _ _ k (by assumption)).mono ?_; clear k; rintro e w2 ⟨rfl, k⟩)
        | fail)
      go_end0
      refine ⟨rfl, hfin.out _ _ ?_ k⟩
      rw [← HL.out]
      unfold onL onH
      simp only [List.foldl_append]
      rfl
end Go.Proofs.YtifgbioacknjpaaGreatDoor

/- A chart that was read is formed. Math alone. -/
namespace Go.Proofs.YtifgbioacknjpaaGreatDoor
open Go.RowKit Go.Lib
set_option linter.unusedSimpArgs false
set_option linter.unusedVariables false


/-- A form is no nil. -/
theorem fm_iface {x : Sx} (h : ClX x) (hf : fmX x = true) : ∃ u y, exX x = .iface u y := by
  obtain ⟨d, t⟩ := x
  cases d with
  | zero => exact Empty.elim t
  | succ d =>
    rcases Cl.cases h with ⟨n, rfl⟩ | ⟨s, rfl⟩ | ⟨k, p, hk, rfl, _⟩ | ⟨s, p, q, rfl, _, _⟩ | rfl
    · exact ⟨_, _, rfl⟩
    · exact ⟨_, _, rfl⟩
    · rcases hk with rfl | rfl <;> exact ⟨_, _, rfl⟩
    · exact ⟨_, _, rfl⟩
    · exact absurd hf (by rw [show fmX (⟨d + 1, none0⟩ : Sx) = false from rfl]; decide)

theorem rt_shrt : ∀ (d : Nat) (t : T d), Cl d t → rtT dcN d t → shrt 1000 d t = true
  | 0, t, _, _ => Empty.elim t
  | d + 1, t, hc, hr => by
    rcases hc.cases with ⟨n, rfl⟩ | ⟨s, rfl⟩ | ⟨k, p, hk, rfl, hp⟩ | ⟨s, p, q, rfl, hp, hq⟩ | rfl
    · rfl
    · have hn : nameS s.data.toList = true := hr.2.1 rfl
      have := name_len hn
      rw [shrt_mk, Bool.and_eq_true]
      refine ⟨decide_eq_true ?_, rfl⟩
      have e : s.size = s.data.toList.length := by rw [Array.length_toList]; rfl
      omega
    · have hrp : rtT dcN d p := by
        have h2 : ∀ z ∈ [fold (rtF dcN) d p], z := hr.2.2.2.2
        exact h2 (fold (rtF dcN) d p) List.mem_cons_self
      have := rt_shrt d p hp hrp
      rw [shrt_mk, Bool.and_eq_true]
      refine ⟨rfl, ?_⟩
      simp [this]
    · have h2 : ∀ z ∈ [fold (rtF dcN) d p, fold (rtF dcN) d q], z := hr.2.2.2.2
      have h3 := rt_shrt d p hp (h2 (fold (rtF dcN) d p) List.mem_cons_self)
      have h4 := rt_shrt d q hq (h2 (fold (rtF dcN) d q) (List.mem_cons_of_mem _ List.mem_cons_self))
      have ho : opB s.data.toList := hr.2.2.1 rfl
      have := op_len ho
      rw [shrt_mk, Bool.and_eq_true]
      refine ⟨decide_eq_true ?_, ?_⟩
      · have e : s.size = s.data.toList.length := by rw [Array.length_toList]; rfl
        omega
      · simp [h3, h4]
    · rfl
theorem ex_ok {x : Sx} (hc : ClX x) (h : exF x = true) : ExOk x := by
  have hfm : fmC x.1 x.2 = true := by
    unfold exF at h
    exact ((Bool.and_eq_true _ _).mp h).1
  exact ⟨hc, by have := (fm_parts hfm).1; unfold cntX; omega, rt_shrt x.1 x.2 hc (exF_parts hc h).2⟩
end Go.Proofs.YtifgbioacknjpaaGreatDoor
