import Derived.Test.YtgpgbingmeehdaaXkc04

/- LinksFull. -/
namespace Go.Proofs.Ytgpgbingmeehdaa
open Go.RowKit Go.Lib Go.Maps
set_option linter.unusedSimpArgs false
set_option linter.unusedVariables false
attribute [local go_sem ↓] Go.wp_at_zero Go.wp_at_succ

def LfL (b : List Int) (j : Nat) : LtL := (List.range j).map fun i => (((i % 4 : Nat) : Int), 4, b)
theorem lfL_len (b : List Int) (j : Nat) : (LfL b j).length = j := by simp [LfL]
theorem lfL_succ (b : List Int) (j : Nat) : LfL b (j + 1) = LfL b j ++ [(((j % 4 : Nat) : Int), 4, b)] := by
  unfold LfL
  rw [List.range_succ, List.map_append]
  rfl
theorem sel_map (f t : Int) (g : Nat → Int) (b : List Int) : ∀ xs : List Nat, (sel f t (xs.map fun i => (g i, t, b))).length = (xs.filter fun i => decide (g i = f)).length
  | [] => rfl
  | x :: r => by
    rw [List.map_cons, sel_cons, List.filter_cons]
    by_cases h : g x = f
    · rw [if_pos ⟨h, rfl⟩, if_pos (decide_eq_true h), List.length_cons, List.length_cons, sel_map f t g b r]
    · rw [if_neg (fun e => h e.1), if_neg (by simpa using h), sel_map f t g b r]
theorem sel_25 (b : List Int) {f : Nat} (hf : f < 4) : (sel (f : Int) 4 (LfL b 100)).length = 25 := by
  unfold LfL
  rw [sel_map]
  match f, hf with
  | 0, _ => decide
  | 1, _ => decide
  | 2, _ => decide
  | 3, _ => decide
theorem fd_in {f t c : Int} {L : LtL} (h0 : 0 ≤ c) (h1 : c < ((sel f t L).length : Int)) : ∃ i, fd f t c 0 0 L = some i ∧ (tkL f t c L).length + 1 = L.length ∧ (sel f t (tkL f t c L)).length + 1 = (sel f t L).length := by
  rcases fd_spec f t c L 0 0 with ⟨i, k, x, h2, h3, h4, h5, h6, h7, h8, h9⟩ | ⟨_, h2⟩
  · rw [Nat.zero_add] at h2
    have e : tkL f t c L = L.take i ++ L.drop (i + 1) := by unfold tkL; rw [h2]
    have hk : k < (sel f t L).length := (List.getElem?_eq_some_iff.1 h8).1
    refine ⟨i, h2, ?_, ?_⟩
    · rw [e, List.length_append, List.length_take, List.length_drop]
      omega
    · rw [e, h9, List.length_append, List.length_take, List.length_drop]
      omega
  · omega
theorem mem_tkL {f t c : Int} {L : LtL} {x : Int × Int × List Int} (h : x ∈ tkL f t c L) : x ∈ L := by
  unfold tkL at h
  split at h
  · rcases List.mem_append.1 h with h | h
    · exact List.mem_of_mem_take h
    · exact List.mem_of_mem_drop h
  · exact h
theorem lfL_mem {b : List Int} {j : Nat} {x : Int × Int × List Int} (h : x ∈ LfL b j) : x.2.2 = b := by
  unfold LfL at h
  obtain ⟨i, _, rfl⟩ := List.mem_map.1 h
  rfl
/-- The links are in blocks from w0 on. -/
def KF (w0 : World) (X : Nat) (w : World) (L : LtL) : Prop := (∃ F, PLM w X F 5 L ∧ ∀ j, F j → w0.heap.size ≤ j) ∧ Below w0.heap.size w0 w
theorem KF.of {w0 w w' : World} {X : Nat} {F : Nat → Prop} {L' : LtL} (hF : ∀ j, F j → w0.heap.size ≤ j) (hb : Below w0.heap.size w0 w) (p : PLM w' X (nF F w) 5 L') (k : Kf F w w') : KF w0 X w' L' :=
  ⟨⟨_, p, fun j hj => hj.elim (hF j) (fun e => Nat.le_trans hb.size e)⟩, hb.trans (k.below hF hb.size)⟩
theorem KF.send {w0 w : World} {X : Nat} {L : LtL} (h : KF w0 X w L) (f t : Int) {u : Value} {b : List Int} (hu : Rd w0 u b) (hb : b.length ≤ 1000000) {e : Int} {L' : LtL} (he : sndL 5 L f t b = (e, L')) :
    Calls Try.prog 11 #[.pointer (some ⟨X, 0, none⟩), .int .i64 f, .int .i64 t, u] w fun r w' => r = .returned (.int .i64 e) ∧ KF w0 X w' L' := by
  obtain ⟨⟨F, p, hF⟩, hbl⟩ := h
  have := lSend_any p f t (rd_onL hu hbl) hb
  rw [he] at this
  refine this.mono ?_
  rintro r w1 ⟨rfl, p1, k1⟩
  exact ⟨rfl, KF.of hF hbl p1 k1⟩
theorem KF.double {w0 w : World} {X : Nat} {L : LtL} (h : KF w0 X w L) (hl : L.length ≤ 1000) (hb : ∀ x ∈ L, x.2.2.length ≤ 1000000) (f t c : Int) :
    Calls Try.prog 17 #[.pointer (some ⟨X, 0, none⟩), .int .i64 f, .int .i64 t, .int .i64 c] w fun r w' => r = .returned (.int .i64 (dbL f t c L).1) ∧ KF w0 X w' (dbL f t c L).2 := by
  obtain ⟨⟨F, p, hF⟩, hbl⟩ := h
  refine (lDouble_any p hl hb f t c).mono ?_
  rintro r w1 ⟨rfl, p1, k1⟩
  exact ⟨rfl, KF.of hF hbl p1 k1⟩
theorem KF.take {w0 w : World} {X : Nat} {L : LtL} (h : KF w0 X w L) (hl : L.length ≤ 1000) (f t c : Int) :
    Calls Try.prog 13 #[.pointer (some ⟨X, 0, none⟩), .int .i64 f, .int .i64 t, .int .i64 c] w fun r w' => ∃ u, r = .returned (.tuple #[u, .bool (fd f t c 0 0 L).isSome]) ∧ KF w0 X w' (tkL f t c L) := by
  obtain ⟨⟨F, p, hF⟩, hbl⟩ := h
  refine (lTake_any p hl f t c).mono ?_
  rintro r w1 ⟨u, rfl, _, p1, k1⟩
  exact ⟨u, rfl, KF.of hF hbl p1.wide k1⟩
theorem tmod_4 (c : Nat) : ∀ x : Int, x = (c : Int) → x.tmod 4 = ((c % 4 : Nat) : Int) := fun x hx => by
  rw [hx, Int.tmod_eq_emod_of_nonneg (by omega)]
  omega
theorem tmod_25 (c : Nat) : ∀ x : Int, x = (c : Int) → x.tmod 25 = ((c % 25 : Nat) : Int) := fun x hx => by
  rw [hx, Int.tmod_eq_emod_of_nonneg (by omega)]
  omega
theorem wrap_nat {n : Nat} (h : n < 100000) : wrap64 (n : Int) = (n : Int) := by unfold wrap64; omega
theorem full_one (bs : List Int) {f d : Nat} (hf : f < 4) (hd : d < 25) : ∃ i1 i2, fd (f : Int) 4 0 0 0 (LfL bs 100) = some i1 ∧ fd (f : Int) 4 (d : Int) 0 0 (LfL bs 100) = some i2 ∧ (tkL (f : Int) 4 (d : Int) (LfL bs 100)).length = 99 ∧ (sel (f : Int) 4 (tkL (f : Int) 4 (d : Int) (LfL bs 100))).length = 24 := by
  have hs := sel_25 bs hf
  have hl := lfL_len bs 100
  obtain ⟨i1, h1, _, _⟩ := fd_in (f := (f : Int)) (t := 4) (c := 0) (L := LfL bs 100) (by omega) (by omega)
  obtain ⟨i2, h2, h3, h4⟩ := fd_in (f := (f : Int)) (t := 4) (c := (d : Int)) (L := LfL bs 100) (by omega) (by omega)
  exact ⟨i1, i2, h1, h2, by omega, by omega⟩
theorem dbL_full {f t c : Int} {L : LtL} {i : Nat} (h : fd f t c 0 0 L = some i) (hl : 100 ≤ L.length) : dbL f t c L = (7, L) := by
  have e : dbL f t c L = addL L f t (pkL f t c L) := by unfold dbL; rw [h]
  rw [e]
  exact if_pos hl
theorem dbL_room {f t c : Int} {L : LtL} {i : Nat} (h : fd f t c 0 0 L = some i) (hl : ¬ 100 ≤ L.length) : dbL f t c L = (0, L ++ [(f, t, pkL f t c L)]) := by
  have e : dbL f t c L = addL L f t (pkL f t c L) := by unfold dbL; rw [h]
  rw [e]
  exact if_neg hl
theorem sndL_full {N f t : Int} {L : LtL} {b : List Int} (hp : Pty N f t) (hl : 100 ≤ L.length) : sndL N L f t b = (7, L) := by
  have e : sndL N L f t b = addL L f t b := if_pos hp
  rw [e]
  exact if_pos hl
theorem full_calls {w0 : World} {X : Nat} {bs : List Int} {u : Value} (hu : Rd w0 u bs) (hb : bs.length ≤ 100) {f d : Nat} (hf : f < 4) (hd : d < 25) : ∃ L2 L3 : LtL, L3.length = 100 ∧
    (∀ W, KF w0 X W (LfL bs 100) → Calls Try.prog 11 #[.pointer (some ⟨X, 0, none⟩), .int .i64 0, .int .i64 1, u] W fun r w' => r = .returned (.int .i64 7) ∧ KF w0 X w' (LfL bs 100)) ∧
    (∀ W, KF w0 X W (LfL bs 100) → Calls Try.prog 17 #[.pointer (some ⟨X, 0, none⟩), .int .i64 (f : Int), .int .i64 4, .int .i64 0] W fun r w' => r = .returned (.int .i64 7) ∧ KF w0 X w' (LfL bs 100)) ∧
    (∀ W, KF w0 X W (LfL bs 100) → Calls Try.prog 13 #[.pointer (some ⟨X, 0, none⟩), .int .i64 (f : Int), .int .i64 4, .int .i64 (d : Int)] W fun r w' => ∃ u, r = .returned (.tuple #[u, .bool true]) ∧ KF w0 X w' L2) ∧
    (∀ W, KF w0 X W L2 → Calls Try.prog 17 #[.pointer (some ⟨X, 0, none⟩), .int .i64 (f : Int), .int .i64 4, .int .i64 0] W fun r w' => r = .returned (.int .i64 0) ∧ KF w0 X w' L3) ∧
    (∀ W, KF w0 X W L3 → Calls Try.prog 11 #[.pointer (some ⟨X, 0, none⟩), .int .i64 0, .int .i64 1, u] W fun r w' => r = .returned (.int .i64 7) ∧ KF w0 X w' L3) := by
  obtain ⟨i1, i2, h1, h2, h3, h4⟩ := full_one bs hf hd
  have hl := lfL_len bs 100
  have hbb : ∀ x ∈ LfL bs 100, x.2.2.length ≤ 1000000 := fun x hx => by rw [lfL_mem hx]; omega
  have hb2 : ∀ x ∈ tkL (f : Int) 4 (d : Int) (LfL bs 100), x.2.2.length ≤ 1000000 := fun x hx => hbb x (mem_tkL hx)
  obtain ⟨i3, h5, _, _⟩ := fd_in (f := (f : Int)) (t := 4) (c := 0) (L := tkL (f : Int) 4 (d : Int) (LfL bs 100)) (by omega) (by omega)
  have hp : Pty 5 0 1 := by unfold Pty; omega
  refine ⟨tkL (f : Int) 4 (d : Int) (LfL bs 100), tkL (f : Int) 4 (d : Int) (LfL bs 100) ++ [((f : Int), 4, pkL (f : Int) 4 0 (tkL (f : Int) 4 (d : Int) (LfL bs 100)))], by rw [List.length_append, List.length_singleton]; omega, fun W h => ?_, fun W h => ?_, fun W h => ?_, fun W h => ?_, fun W h => ?_⟩
  · exact h.send 0 1 hu (by omega) (sndL_full hp (by omega))
  · have := h.double (by omega) hbb (f : Int) 4 0
    rw [dbL_full h1 (by omega)] at this
    exact this
  · have := h.take (by omega) (f : Int) 4 (d : Int)
    rw [h2] at this
    exact this
  · have := h.double (by omega) hb2 (f : Int) 4 0
    rw [dbL_room h5 (by omega)] at this
    exact this
  · exact h.send 0 1 hu (by omega) (sndL_full hp (by rw [List.length_append, List.length_singleton]; omega))
set_option maxRecDepth 100000 in
set_option maxHeartbeats 4000000 in
theorem linksFull_main {w : World} {v : Value} {bs : List Int} (hr : Rd w v bs) (h1 : bs.length ≤ 100) (c : Nat) (hc : c < 256) :
    Calls Try.prog 5 #[.int .u8 (c : Int), v] w fun e w' => e = .returned (.bool true) ∧ Below w.heap.size w w' := by
  obtain ⟨ba, bc, rfl, _⟩ := id hr
  have ha := lAwake_any w
  have hN := fun wz => lNew_any wz 5
  have HR := hideL hr
  obtain ⟨n, hn⟩ : ∃ n, bs.length = n := ⟨_, rfl⟩
  have HN := hideL hn
  rw [hn] at h1 ⊢
  have k2 : ¬ (100 : Int) < (n : Int) := by omega
  clear hr hn
  go_enter Try.func5, Try.ntmps5
  go_wp2_with (first
    | (go_at_call 7; refine ha.mono ?_; rintro e w1 ⟨rfl, b1⟩; have HB1 := hideL b1; clear ha b1)
    | (go_at_call 9; refine (hN _).mono ?_; rintro e w2 ⟨rfl, p2, b2⟩; have HP2 := hideL (And.intro p2 b2); clear p2 b2)
    | fail)
  have hK2 : KF w1 w1.heap.size w2 (LfL bs 0) := ⟨⟨_, HP2.out.1, fun j hj => by have e : j = w1.heap.size := hj; omega⟩, HP2.out.2⟩
  have HK2 := hideL hK2
  have hR1 := rd_onL HR.out HB1.out
  rw [HN.out] at hR1
  have HR1 := hideL hR1
  clear hK2 hR1
  go_loopw [23] (fun i wr => ∃ (j : Nat), j ≤ 100 ∧ i = .int .i64 (j : Int) ∧ Hid (KF w1 w1.heap.size wr (LfL bs j))) (fun i _ => 100 - (RowKit.intOf i).toNat)
  case atStart => exact ⟨0, Nat.zero_le _, rfl, HK2⟩
  case round =>
    obtain ⟨j, hj, rfl, HJ⟩ := hrel
    clear HK2
    by_cases hlt : j < 100
    · have k1 : (j : Int) < 100 := by omega
      have hs := HJ.out.send (((j % 4 : Nat) : Int)) 4 HR1.out (by rw [HN.out]; omega) (e := 0) (L' := LfL bs (j + 1)) (by
        unfold sndL addL
        rw [if_pos (by unfold Pty; omega), if_neg (by rw [lfL_len]; omega), lfL_succ])
      have e4 : ((j : Int).tmod 4) = ((j % 4 : Nat) : Int) := by rw [Int.tmod_eq_emod_of_nonneg (by omega)]; omega
      have e5 : wrap64 ((j % 4 : Nat) : Int) = ((j % 4 : Nat) : Int) := by unfold wrap64; omega
      go_wp2_with (first
        | (go_at_call 11; refine hs.mono ?_; rintro e w4 ⟨rfl, s4⟩; have HS4 := hideL s4; clear hs s4)
        | fail)
      go_roundw
      case rel => exact ⟨j + 1, hlt, by go_num, HS4⟩
      case measure => simp [RowKit.intOf]; omega
    · have e : j = 100 := by omega
      subst e
      have e4 := tmod_4 c
      have e25 := tmod_25 c
      obtain ⟨L2, L3, hl3, hc1, hc2, hc3, hc4, hc5⟩ := full_calls (X := w1.heap.size) HR1.out (by rw [HN.out]; omega) (Nat.mod_lt c (show 0 < 4 by decide)) (Nat.mod_lt c (show 0 < 25 by decide))
      obtain ⟨f, hf⟩ : ∃ f, c % 4 = f := ⟨_, rfl⟩
      obtain ⟨d, hd⟩ : ∃ d, c % 25 = d := ⟨_, rfl⟩
      have hfl : f < 4 := by omega
      have hdl : d < 25 := by omega
      rw [hf] at e4 hc2 hc3 hc4
      rw [hd] at e25 hc3
      have w4 : wrap64 (f : Int) = (f : Int) := wrap_nat (Nat.lt_trans hfl (by decide))
      have w25 : wrap64 (d : Int) = (d : Int) := wrap_nat (Nat.lt_trans hdl (by decide))
      have wc : wrap64 (c : Int) = (c : Int) := wrap_nat (Nat.lt_trans hc (by decide))
      have h4 := hc1 wr HJ.out
      have HC := hideL (And.intro hc2 (And.intro hc3 (And.intro hc4 hc5)))
      have HL3 := hideL hl3
      have k1 : ¬ (100 : Int) < 100 := by decide
      clear hc1 hc2 hc3 hc4 hc5 hf hd hl3 HJ
      go_wp2_with (first
        | (go_at_call 11; refine h4.mono ?_; rintro e w4 ⟨rfl, s4⟩; have h5 := HC.out.1 _ s4; clear h4 s4)
        | (go_at_call 17; refine h5.mono ?_; rintro e w5 ⟨rfl, s5⟩; have h6 := HC.out.2.1 _ s5; clear h5 s5)
        | (go_at_call 13; refine h6.mono ?_; rintro e w6 ⟨u6, rfl, s6⟩; have h7 := HC.out.2.2.1 _ s6; clear h6 s6)
        | (go_at_call 17; refine h7.mono ?_; rintro e w7 ⟨rfl, s7⟩; have h8 := HC.out.2.2.2 _ s7; clear h7 s7)
        | (go_at_call 11; refine h8.mono ?_; rintro e w8 ⟨rfl, ⟨F8, p8, hF8⟩, b8⟩; have h9 := lTotal_any p8; rw [HL3.out, show ((100 : Nat) : Int) = 100 from rfl] at h9; have HB8 := hideL b8; clear h8 p8 hF8 b8)
        | (go_at_call 21; refine h9.mono ?_; rintro e w9 ⟨rfl, rfl⟩; clear h9)
        | fail)
      go_ret
      exact ⟨rfl, HB1.out.trans (HB8.out.mono HB1.out.size)⟩
set_option maxHeartbeats 1000000 in
theorem linksFull_off {w : World} {v : Value} {bs : List Int} (hr : Rd w v bs) (h0 : 100 < bs.length) (hs : bs.length ≤ 140737488351232) (c : Int) :
    Calls Try.prog 5 #[.int .u8 c, v] w fun e w' => e = .returned (.bool true) ∧ Below w.heap.size w w' := by
  obtain ⟨ba, bc, rfl, _⟩ := id hr
  have ha := lAwake_any w
  obtain ⟨n, hn⟩ : ∃ n, bs.length = n := ⟨_, rfl⟩
  rw [hn] at h0 hs ⊢
  clear hr hn
  have k2 : (100 : Int) < (n : Int) := by omega
  clear h0
  go_enter Try.func5, Try.ntmps5
  go_wp2_with (first
    | (go_at_call 7; refine ha.mono ?_; rintro e w1 ⟨rfl, b1⟩; have ha2 := lAwake_any w1; have HB1 := hideL b1; clear ha b1)
    | (go_at_call 7; refine ha2.mono ?_; rintro e w2 ⟨rfl, b2⟩; have HB2 := hideL b2; clear ha2 b2)
    | fail)
  go_ret
  exact ⟨rfl, HB1.out.trans (HB2.out.mono HB1.out.size)⟩
theorem linksFull_walk {w : World} (c : Int) (hc : (Lit.int .u8 c).wf = true) (v : Value) (bs : List Int) (hr : Rd w v bs) (hb : ∀ x ∈ bs, 0 ≤ x ∧ x ≤ 255) (hs : bs.length ≤ 140737488351232) :
    Calls Try.prog 5 #[.int .u8 c, v] w fun e w' => e = .returned (.bool true) ∧ Below w.heap.size w w' := by
  by_cases h : 100 < bs.length
  · exact linksFull_off hr h hs c
  · have hc2 : 0 ≤ c ∧ c ≤ 255 := by simpa [Lit.wf, IntKind.min, IntKind.max, IntKind.signed, IntKind.bits] using hc
    obtain ⟨k, rfl⟩ : ∃ k : Nat, c = (k : Int) := ⟨c.toNat, by omega⟩
    exact linksFull_main hr (by omega) k (by omega)
end Go.Proofs.Ytgpgbingmeehdaa
