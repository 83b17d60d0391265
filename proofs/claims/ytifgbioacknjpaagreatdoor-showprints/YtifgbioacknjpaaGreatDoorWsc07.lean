import Derived.Test.YtifgbioacknjpaaGreatDoorWsc06
import Derived.Test.YtifgbioacknjpaaGreatDoorWsc03
import Derived.Test.YtifgbioacknjpaaGreatDoorWsc02
import Derived.Test.YtifgbioacknjpaaGreatDoorWsc05
import Derived.Test.YtifgbioacknjpaaGreatDoorWsc04
import Derived.Deep.RegionLaw
import Derived.Deep.LoopGhost
import Derived.Deep.DeepCutAuto

/- Package show's rightSet, every of sets. -/
namespace Go.Proofs.YtifgbioacknjpaaGreatDoor
open Go.RowKit Go.Lib
set_option linter.unusedSimpArgs false
set_option linter.unusedVariables false
attribute [local go_sem ↓] Go.wp_at_zero Go.wp_at_succ

def SetK (s : List UInt8 × Sx) : Prop := SetOk s ∧ cntX s.2 ≤ 1000
set_option maxRecDepth 100000 in
set_option maxHeartbeats 8000000 in
theorem rset_nil (s0 : ByteArray) (bn be : Bool) (w : World) (hn : ∀ w1, Below w.heap.size w w1 → Calls Tryz.prog 41 #[.string s0] w1 fun e w' => e = .returned (.bool bn) ∧ Below w1.heap.size w1 w') (he : ∀ w1, Below w.heap.size w w1 → Calls Tryz.prog 121 #[.nilIface] w1 fun e w' => e = .returned (.bool be) ∧ Below w1.heap.size w1 w') : Calls Tryz.prog 123 #[.agg #[.string s0, .nilIface]] w fun e w' => e = .returned (.bool (bn && be)) ∧ Below w.heap.size w w' := by
  have hal : Below w.heap.size w (w.alloc (.cells #[.string s0, .nilIface] 118)) := (Below.refl w.heap.size w).alloc (Nat.le_refl _) _
  have hX : Bn (w.alloc (.cells #[.string s0, .nilIface] 118)) w.heap.size [.string s0, .nilIface] := Bn.new w [.string s0, .nilIface] 118 _ rfl
  cases bn <;> cases be
  all_goals (
    go_enter Tryz.func123, Tryz.ntmps123
    go_upto_region 1 with fail
    generalize (w.alloc (.cells #[.string s0, .nilIface] 118)) = wx at *
    have hB : Below wx.heap.size wx wx := Below.refl _ _
    obtain ⟨x0, _⟩ := hX 0 _ rfl
    obtain ⟨x1, _⟩ := hX 1 _ rfl
    go_wp2_with (first
      | (go_at_call 41; refine (hn _ (hal.trans (hB.mono hal.size))).mono ?_; rintro e w1 ⟨rfl, b1⟩; have hB := Below.nx hB b1; obtain ⟨x1, _⟩ := (hX.on hB) 1 _ rfl)
      | (go_at_call 121; refine (he _ (hal.trans (hB.mono hal.size))).mono ?_; rintro e w1 ⟨rfl, b1⟩; have hB := Below.nx hB b1; skip)
      | fail)
    go_ret
    exact ⟨rfl, hal.trans (hB.mono hal.size)⟩)
set_option maxRecDepth 100000 in
set_option maxHeartbeats 8000000 in
theorem rset_ifc (s0 : ByteArray) (tu : TypeId) (ty : Value) (bn be : Bool) (w : World) (hn : ∀ w1, Below w.heap.size w w1 → Calls Tryz.prog 41 #[.string s0] w1 fun e w' => e = .returned (.bool bn) ∧ Below w1.heap.size w1 w') (he : ∀ w1, Below w.heap.size w w1 → Calls Tryz.prog 121 #[.iface tu ty] w1 fun e w' => e = .returned (.bool be) ∧ Below w1.heap.size w1 w') : Calls Tryz.prog 123 #[.agg #[.string s0, .iface tu ty]] w fun e w' => e = .returned (.bool (bn && be)) ∧ Below w.heap.size w w' := by
  have hal : Below w.heap.size w (w.alloc (.cells #[.string s0, .iface tu ty] 118)) := (Below.refl w.heap.size w).alloc (Nat.le_refl _) _
  have hX : Bn (w.alloc (.cells #[.string s0, .iface tu ty] 118)) w.heap.size [.string s0, .iface tu ty] := Bn.new w [.string s0, .iface tu ty] 118 _ rfl
  cases bn <;> cases be
  all_goals (
    go_enter Tryz.func123, Tryz.ntmps123
    go_upto_region 1 with fail
    generalize (w.alloc (.cells #[.string s0, .iface tu ty] 118)) = wx at *
    have hB : Below wx.heap.size wx wx := Below.refl _ _
    obtain ⟨x0, _⟩ := hX 0 _ rfl
    obtain ⟨x1, _⟩ := hX 1 _ rfl
    go_wp2_with (first
      | (go_at_call 41; refine (hn _ (hal.trans (hB.mono hal.size))).mono ?_; rintro e w1 ⟨rfl, b1⟩; have hB := Below.nx hB b1; obtain ⟨x1, _⟩ := (hX.on hB) 1 _ rfl)
      | (go_at_call 121; refine (he _ (hal.trans (hB.mono hal.size))).mono ?_; rintro e w1 ⟨rfl, b1⟩; have hB := Below.nx hB b1; skip)
      | fail)
    go_ret
    exact ⟨rfl, hal.trans (hB.mono hal.size)⟩)
set_option maxRecDepth 100000 in
set_option maxHeartbeats 8000000 in
theorem everySet_any  {ok : Nat → Prop} {w : World} {l : List (List UInt8 × Sx)} {v : Value} (h : RdK ok w 2 (rSet ok w) l v) (hok : ∀ s ∈ l, SetK s) (hp : Pow w) :
    Calls Tryz.prog 122 #[v, .func (.func 123) #[] #[]] w fun e w' => e = .returned (.bool (l.all (setF))) ∧ Below w.heap.size w w' := by
  obtain ⟨a, cap, rfl, hlc, hcm⟩ := h.form
  unfold maxLen at hcm
  have HC := mkHid h
  have HK := mkHid hok
  obtain ⟨n, hn⟩ : ∃ n, l.length = n := ⟨_, rfl⟩
  rw [hn] at hlc ⊢
  have HN : Hid (l.length = n) := hn
  obtain ⟨f, hf⟩ : ∃ f : (List UInt8 × Sx) → Bool, (setF) = f := ⟨_, rfl⟩
  rw [hf]
  have HF := mkHid hf
  obtain ⟨V, HA⟩ : ∃ V, l.all f = V := ⟨_, rfl⟩
  rw [HA]
  have HAA := mkHid HA
  clear h hok hn hf HA
  go_enter Tryz.func122, Tryz.ntmps122
  go_wp2
  go_loopw [9] (fun ix wr => ∃ (i : Nat), i ≤ n ∧ ix = .int .i64 (i : Int) ∧ Hid (∀ x ∈ l.take i, f x = true) ∧ Below w.heap.size w wr) (fun ix _ => n - (RowKit.intOf ix).toNat)
  case atStart => exact ⟨0, Nat.zero_le _, rfl, (show Hid _ from fun x hx => by simp at hx), Below.refl _ _⟩
  case round =>
    obtain ⟨i, hi, rfl, hT, hb⟩ := hrel
    by_cases hlt : i < n
    · have hil : i < l.length := by rw [HN.out]; exact hlt
      have HA := HAA.out
      obtain ⟨b, off, rfl, hbl, hc⟩ := setQ_at HC.out i hil
      have hks := HK.out _ (List.getElem_mem hil)
      obtain ⟨q, hq⟩ : ∃ q, l[i] = q := ⟨_, rfl⟩
      have HQ := mkHid hq
      rw [hq] at hc hks
      have hfx : f q = (plainB q.1 && exF q.2) := by rw [← HF.out]; rfl
      have hnm := fun w1 => rname_any q.1 w1 hks.1.1
      have hex := fun w1 hp => rexp_any hks.1.2 hks.2 w1 hp
      obtain ⟨s0, hs0⟩ : ∃ s0, sV q.1 = .string s0 := ⟨_, rfl⟩
      have hform := exX_form q.2
      obtain ⟨tv, htv⟩ : ∃ tv, exX q.2 = tv := ⟨_, rfl⟩
      rw [hs0, htv] at hc
      rw [hs0] at hnm
      rw [htv] at hform hex
      clear hs0 htv hq hks
      have i1 : (i : Int) < (n : Int) := by omega
      have i2 : (0 : Int) ≤ (i : Int) := by omega
      have C0 := (hb.cell (p := ⟨b, off + i * 2 + 0, none⟩) hbl).trans (hc 0 _ rfl)
      have C1 := (hb.cell (p := ⟨b, off + i * 2 + 1, none⟩) hbl).trans (hc 1 _ rfl)
      rw [Nat.add_zero] at C0
      clear hc
      rcases hform with rfl | ⟨tu, ty, rfl⟩
      · have hal : Below wr.heap.size wr (wr.alloc (.cells #[.string s0, .nilIface] 118)) := (Below.refl _ _).alloc (Nat.le_refl _) _
        have hX : Bn (wr.alloc (.cells #[.string s0, .nilIface] 118)) wr.heap.size [.string s0, .nilIface] := Bn.new wr [.string s0, .nilIface] 118 _ rfl
        have hbx := hb.trans (hal.mono hb.size)
        have hcall : ∀ w1, Below w.heap.size w w1 → Calls Tryz.prog 123 #[.agg #[.string s0, .nilIface]] w1 fun e w' => e = .returned (.bool (f q)) ∧ Below w1.heap.size w1 w' := fun w1 b1 => by
          rw [hfx]
          exact rset_nil s0 _ _ w1 (fun w2 _ => hnm w2) (fun w2 b2 => hex w2 ((hp.below b1).below b2))
        clear hnm hex hfx
        have hac2 : Hid (f q = true → (∀ x ∈ l.take (i + 1), f x = true)) := fun hq => by
          rw [List.take_succ_eq_append_getElem hil, HQ.out]
          intro x hx
          rcases List.mem_append.1 hx with hx | hx
          · exact hT.out x hx
          · rw [List.mem_singleton.1 hx]; exact hq
        have hall : Hid (f q = false → l.all f = false) := fun hq => by
          show l.all f = false
          rw [List.all_eq_false]
          exact ⟨q, by rw [← HQ.out]; exact List.getElem_mem hil, by rw [hq]; decide⟩
        cases hfq : f q with
        | true =>
          rw [hfq] at hcall
          have hT2 : Hid (∀ x ∈ l.take (i + 1), f x = true) := hac2.out hfq
          clear hac2 hall hfq
          go_upto_region 4 with fail
          clear C0 C1
          generalize (wr.alloc (.cells #[.string s0, .nilIface] 118)) = wx at *
          obtain ⟨x0, _⟩ := hX 0 _ rfl
          obtain ⟨x1, _⟩ := hX 1 _ rfl
          go_wp2_with (first
            | (go_at_call 123; refine (hcall _ hbx).mono ?_; rintro e w1 ⟨rfl, b1⟩)
            | fail)
          have hb2 := hbx.trans (b1.mono hbx.size)
          go_wp2
          go_roundw
          case rel => exact ⟨i + 1, hlt, by go_num, hT2, hb2⟩
          case measure => simp [RowKit.intOf]; omega
        | false =>
          rw [hfq] at hcall
          have hA := hall.out hfq
          rw [hA] at HA
          subst HA
          clear hac2 hall hfq hA
          go_upto_region 4 with fail
          clear C0 C1
          generalize (wr.alloc (.cells #[.string s0, .nilIface] 118)) = wx at *
          obtain ⟨x0, _⟩ := hX 0 _ rfl
          obtain ⟨x1, _⟩ := hX 1 _ rfl
          go_wp2_with (first
            | (go_at_call 123; refine (hcall _ hbx).mono ?_; rintro e w1 ⟨rfl, b1⟩)
            | fail)
          go_ret
          exact ⟨rfl, hbx.trans (b1.mono hbx.size)⟩
      · have hal : Below wr.heap.size wr (wr.alloc (.cells #[.string s0, .iface tu ty] 118)) := (Below.refl _ _).alloc (Nat.le_refl _) _
        have hX : Bn (wr.alloc (.cells #[.string s0, .iface tu ty] 118)) wr.heap.size [.string s0, .iface tu ty] := Bn.new wr [.string s0, .iface tu ty] 118 _ rfl
        have hbx := hb.trans (hal.mono hb.size)
        have hcall : ∀ w1, Below w.heap.size w w1 → Calls Tryz.prog 123 #[.agg #[.string s0, .iface tu ty]] w1 fun e w' => e = .returned (.bool (f q)) ∧ Below w1.heap.size w1 w' := fun w1 b1 => by
          rw [hfx]
          exact rset_ifc s0 tu ty _ _ w1 (fun w2 _ => hnm w2) (fun w2 b2 => hex w2 ((hp.below b1).below b2))
        clear hnm hex hfx
        have hac2 : Hid (f q = true → (∀ x ∈ l.take (i + 1), f x = true)) := fun hq => by
          rw [List.take_succ_eq_append_getElem hil, HQ.out]
          intro x hx
          rcases List.mem_append.1 hx with hx | hx
          · exact hT.out x hx
          · rw [List.mem_singleton.1 hx]; exact hq
        have hall : Hid (f q = false → l.all f = false) := fun hq => by
          show l.all f = false
          rw [List.all_eq_false]
          exact ⟨q, by rw [← HQ.out]; exact List.getElem_mem hil, by rw [hq]; decide⟩
        cases hfq : f q with
        | true =>
          rw [hfq] at hcall
          have hT2 : Hid (∀ x ∈ l.take (i + 1), f x = true) := hac2.out hfq
          clear hac2 hall hfq
          go_upto_region 4 with fail
          clear C0 C1
          generalize (wr.alloc (.cells #[.string s0, .iface tu ty] 118)) = wx at *
          obtain ⟨x0, _⟩ := hX 0 _ rfl
          obtain ⟨x1, _⟩ := hX 1 _ rfl
          go_wp2_with (first
            | (go_at_call 123; refine (hcall _ hbx).mono ?_; rintro e w1 ⟨rfl, b1⟩)
            | fail)
          have hb2 := hbx.trans (b1.mono hbx.size)
          go_wp2
          go_roundw
          case rel => exact ⟨i + 1, hlt, by go_num, hT2, hb2⟩
          case measure => simp [RowKit.intOf]; omega
        | false =>
          rw [hfq] at hcall
          have hA := hall.out hfq
          rw [hA] at HA
          subst HA
          clear hac2 hall hfq hA
          go_upto_region 4 with fail
          clear C0 C1
          generalize (wr.alloc (.cells #[.string s0, .iface tu ty] 118)) = wx at *
          obtain ⟨x0, _⟩ := hX 0 _ rfl
          obtain ⟨x1, _⟩ := hX 1 _ rfl
          go_wp2_with (first
            | (go_at_call 123; refine (hcall _ hbx).mono ?_; rintro e w1 ⟨rfl, b1⟩)
            | fail)
          go_ret
          exact ⟨rfl, hbx.trans (b1.mono hbx.size)⟩
    · have i1 : ¬ (i : Int) < (n : Int) := by omega
      have hV : V = true := by
        rw [← HAA.out, List.all_eq_true]
        have hf := hT.out
        rw [List.take_of_length_le (by rw [HN.out]; omega)] at hf
        exact hf
      subst hV
      go_wp2
      go_ret
      exact ⟨rfl, hb⟩

theorem cell_al {w : World} {p : Addr} {v : Value} {O : Obj} (h : w.cell? p = some v) : (w.alloc O).cell? p = some v := (((Below.refl w.heap.size w).alloc (Nat.le_refl _) O).cell (World.block_lt_of_cell? w _ h)).trans h
theorem cell_pt {w : World} {X Y j : Nat} {v a b c e : Value} (h : w.cell? ⟨Y, j, none⟩ = some v) (hne : Y ≠ X) : (put4 w X a b c e).cell? ⟨Y, j, none⟩ = some v := cell_far4 (by omega) (cell_far4 (by omega) (cell_far4 (by omega) (cell_far4 (by omega) h)))
abbrev z4 (w : World) (X : Nat) : Prop := B4 w X (.int .i64 0) (.int .i64 0) (.string ⟨#[]⟩) (.slice none 0 0)

theorem cell_dr {w : World} {p : Addr} {v : Value} (h : w.cell? p = some v) : w.drew.cell? p = some v := h
theorem ne_pt {X Y i j : Nat} (h : Y ≠ X) : ¬ (X = Y ∧ i = j) := fun e => h e.1.symm
abbrev O0 : Obj := .cells #[.int .i64 0, .int .i64 0, .string ⟨#[]⟩, .slice none 0 0] 198
theorem bw2 {w w1 : World} (b : Below ((w.alloc (.cells #[.int .i64 0, .int .i64 0, .string ⟨#[]⟩, .slice none 0 0] 198)).alloc (.cells #[.int .i64 0, .int .i64 0, .string ⟨#[]⟩, .slice none 0 0] 198)).drew.heap.size ((w.alloc (.cells #[.int .i64 0, .int .i64 0, .string ⟨#[]⟩, .slice none 0 0] 198)).alloc (.cells #[.int .i64 0, .int .i64 0, .string ⟨#[]⟩, .slice none 0 0] 198)).drew w1) : Below w.heap.size w w1 := ((((Below.refl _ w).alloc (Nat.le_refl _) _).alloc (by simp) _).drew).trans (b.mono (by simp; omega))
theorem Kids.put {w : World} {sl : Value} {L : List Value} {X : Nat} {a b c e : Value} (h : Kids w sl L) (hi : ∀ v ∈ L, Ifc v) (hz : z4 w X) : Kids (put4 w X a b c e) sl L := by
  rcases h with h | ⟨g, hv, hc⟩
  · exact .inl h
  · refine .inr ⟨g, hv, fun i hl => ?_⟩
    have hne : g ≠ X := fun e => by
      subst e
      have h0 := hc 0 (by omega)
      rw [hz.c0] at h0
      have h1 := Option.some.inj h0
      rcases hi _ (List.getElem_mem (by omega : 0 < L.length)) with q | ⟨u, y, q⟩
      · rw [q] at h1; cases h1
      · rw [q] at h1; cases h1
    exact cell_pt (hc i hl) hne
theorem KidsN.put {lo : Nat} {w : World} {sl : Value} {L : List Value} {X : Nat} {a b c e : Value} (h : KidsN lo w sl L) (hi : ∀ v ∈ L, Ifc v) (hz : z4 w X) : KidsN lo (put4 w X a b c e) sl L := ⟨h.1.put hi hz, h.2⟩
theorem KidsN.al {lo : Nat} {w : World} {sl : Value} {L : List Value} {O : Obj} (h : KidsN lo w sl L) : KidsN lo (w.alloc O) sl L := ⟨h.1.below ((Below.refl _ _).alloc (Nat.le_refl _) O) (Nat.le_refl _), h.2⟩
theorem B4.at {w : World} {X : Nat} {a b c e : Value} (h : B4 w X a b c e) : At4 w X a b c e := ⟨h.c0, h.c1, h.c2, h.c3⟩
section
variable {wr w2 : World} {X Y : Nat} {a b c sl a' b' c' sl' : Value} {L M : List Value}
end

theorem KidsN.gr {lo g : Nat} {w w' : World} {sl : Value} {L : List Value} (h : KidsN lo w sl L) (hg : w.grownBy w' (some g)) (hl : g < lo) : KidsN lo w' sl L := by
  refine ⟨?_, h.2⟩
  rcases h.1 with q | ⟨b, hv, hc⟩
  · exact .inl q
  · refine .inr ⟨b, hv, fun i hi => hg.cell (hc i hi) (fun e => ?_)⟩
    have := h.2 b (by rw [hv]; rfl)
    have e2 : b = g := by simpa using e
    omega


def OnOk (o : OnC) : Prop := o.1.length ≤ 140737488351232 ∧ o.2.2.1.length ≤ 140737488351232 ∧ (o.2.1.1 = true → ExOk o.2.1.2) ∧ (∀ s ∈ o.2.2.2.1, SetOk s) ∧ o.2.2.2.1.length ≤ 100000
theorem onQ_at {ok : Nat → Prop} {w : World} {l : List OnC} {a : Option Addr} {n cap : Nat} (h : RdK ok w 6 (rOn ok w) l (.slice a n cap)) (j : Nat) (hj : j < l.length) : ∃ b off s1 s3, a = some ⟨b, off, none⟩ ∧ b < w.heap.size ∧ RdK ok w 2 (rSet ok w) l[j].2.2.2.1 (.slice s1 l[j].2.2.2.1.length s3) ∧ ∀ i u, (onV l[j] (.slice s1 l[j].2.2.2.1.length s3))[i]? = some u → w.cell? ⟨b, off + j * 6 + i, none⟩ = some u := by
  obtain ⟨a1, cap1, he, h1, h2, h3⟩ := h
  simp only [Value.slice.injEq] at he
  obtain ⟨rfl, rfl, rfl⟩ := he
  obtain ⟨b, off, cs, ha, _, hb, hl, ⟨sl, rfl, hs⟩, hc⟩ := h3 j hj
  obtain ⟨s1, s3, rfl, _⟩ := hs.form
  exact ⟨b, off, s1, s3, ha, hb, hs, hc⟩

def OnK (o : OnC) : Prop := o.1.length ≤ 140737488351232 ∧ o.2.2.1.length ≤ 140737488351232 ∧ (o.2.1.1 = true → ExOk o.2.1.2 ∧ cntX o.2.1.2 ≤ 1000 ∧ exX o.2.1.2 ≠ .nilIface) ∧ ∀ s ∈ o.2.2.2.1, SetK s
theorem sV_out (s : List UInt8) (h : s.length ≤ 140737488351232) : ∃ e : ByteArray, sV s = .string e ∧ bl e = s ∧ e.size ≤ 140737488351232 := ⟨⟨s.toArray⟩, rfl, by unfold bl; simp, by show s.toArray.size ≤ _; simpa using h⟩
theorem rnameB (s : ByteArray) (w : World) (hs : s.size ≤ 140737488351232) : Calls Tryz.prog 41 #[.string s] w fun e w' => e = .returned (.bool (plainB (bl s))) ∧ Below w.heap.size w w' := by
  have h := rname_any (bl s) w (by unfold bl; simpa using hs)
  have e : sV (bl s) = .string s := by unfold sV bl; simp
  rw [e] at h
  exact h
theorem rgrd_any {o : OnC} (h : OnK o) : (gdV o.2.1 = .nilIface ∧ (!o.2.1.1 || exF o.2.1.2) = true) ∨ ∃ gu gy, gdV o.2.1 = .iface gu gy ∧ ∀ w, Pow w → Calls Tryz.prog 121 #[.iface gu gy] w fun e w' => e = .returned (.bool (!o.2.1.1 || exF o.2.1.2)) ∧ Below w.heap.size w w' := by
  cases hb : o.2.1.1 with
  | false =>
    left
    refine ⟨?_, rfl⟩
    unfold gdV; rw [hb]; rfl
  | true =>
    right
    obtain ⟨h1, h2, h3⟩ := h.2.2.1 hb
    have hg : gdV o.2.1 = exX o.2.1.2 := by unfold gdV; rw [hb]; rfl
    rw [hg]
    rcases exX_form o.2.1.2 with h4 | ⟨u, y, h4⟩
    · exact absurd h4 h3
    · refine ⟨u, y, h4, fun w hw => ?_⟩
      have := rexp_any h1 h2 w hw
      rw [h4] at this
      exact this
set_option maxRecDepth 100000 in
set_option maxHeartbeats 8000000 in
theorem ron_nil (ev tg : ByteArray) (ol oc : Int) (s1 : Option Addr) (ns s3 : Nat) (bq : Bool) (w : World) (hev : ev.size ≤ 140737488351232) (htg : tg.size ≤ 140737488351232) (hq : ∀ w1, Below w.heap.size w w1 → Calls Tryz.prog 122 #[.slice s1 ns s3, .func (.func 123) #[] #[]] w1 fun e w' => e = .returned (.bool bq) ∧ Below w1.heap.size w1 w') : Calls Tryz.prog 78 #[.agg #[.string ev, .nilIface, .string tg, .slice s1 ns s3, .int .i64 ol, .int .i64 oc]] w fun e w' => e = .returned (.bool (plainB (bl ev) && ((plainB (bl tg) && bq)))) ∧ Below w.heap.size w w' := by
  have hal : Below w.heap.size w (w.alloc (.cells #[.string ev, .nilIface, .string tg, .slice s1 ns s3, .int .i64 ol, .int .i64 oc] 115)) := (Below.refl w.heap.size w).alloc (Nat.le_refl _) _
  have hX : Bn (w.alloc (.cells #[.string ev, .nilIface, .string tg, .slice s1 ns s3, .int .i64 ol, .int .i64 oc] 115)) w.heap.size [.string ev, .nilIface, .string tg, .slice s1 ns s3, .int .i64 ol, .int .i64 oc] := Bn.new w [.string ev, .nilIface, .string tg, .slice s1 ns s3, .int .i64 ol, .int .i64 oc] 115 _ rfl
  cases h1 : plainB (bl ev) <;> cases h2 : plainB (bl tg) <;> cases bq
  all_goals (
    go_enter Tryz.func78, Tryz.ntmps78
    go_upto_region 1 with fail
    generalize (w.alloc (.cells #[.string ev, .nilIface, .string tg, .slice s1 ns s3, .int .i64 ol, .int .i64 oc] 115)) = wx at *
    have hB : Below wx.heap.size wx wx := Below.refl _ _
    obtain ⟨x0, _⟩ := hX 0 _ rfl
    obtain ⟨x1, _⟩ := hX 1 _ rfl
    obtain ⟨x2, _⟩ := hX 2 _ rfl
    obtain ⟨x3, _⟩ := hX 3 _ rfl
    obtain ⟨x4, _⟩ := hX 4 _ rfl
    obtain ⟨x5, _⟩ := hX 5 _ rfl
    go_wp2_with (first
      | (go_at_call 41; refine (rnameB _ _ (by assumption)).mono ?_; rintro e w1 ⟨rfl, b1⟩; simp only [h1, h2]; have hB := Below.nx hB b1; obtain ⟨x1, _⟩ := (hX.on hB) 1 _ rfl; obtain ⟨x2, _⟩ := (hX.on hB) 2 _ rfl; obtain ⟨x3, _⟩ := (hX.on hB) 3 _ rfl)
      | (go_at_call 122; refine (hq _ (hal.trans (hB.mono hal.size))).mono ?_; rintro e w1 ⟨rfl, b1⟩; have hB := Below.nx hB b1; skip)
      | fail)
    go_ret
    exact ⟨rfl, hal.trans (hB.mono hal.size)⟩)
set_option maxRecDepth 100000 in
set_option maxHeartbeats 8000000 in
theorem ron_ifc (ev tg : ByteArray) (gu : TypeId) (gy : Value) (ol oc : Int) (s1 : Option Addr) (ns s3 : Nat) (be bq : Bool) (w : World) (hev : ev.size ≤ 140737488351232) (htg : tg.size ≤ 140737488351232) (he : ∀ w1, Below w.heap.size w w1 → Calls Tryz.prog 121 #[.iface gu gy] w1 fun e w' => e = .returned (.bool be) ∧ Below w1.heap.size w1 w') (hq : ∀ w1, Below w.heap.size w w1 → Calls Tryz.prog 122 #[.slice s1 ns s3, .func (.func 123) #[] #[]] w1 fun e w' => e = .returned (.bool bq) ∧ Below w1.heap.size w1 w') : Calls Tryz.prog 78 #[.agg #[.string ev, .iface gu gy, .string tg, .slice s1 ns s3, .int .i64 ol, .int .i64 oc]] w fun e w' => e = .returned (.bool (plainB (bl ev) && (be && (plainB (bl tg) && bq)))) ∧ Below w.heap.size w w' := by
  have hal : Below w.heap.size w (w.alloc (.cells #[.string ev, .iface gu gy, .string tg, .slice s1 ns s3, .int .i64 ol, .int .i64 oc] 115)) := (Below.refl w.heap.size w).alloc (Nat.le_refl _) _
  have hX : Bn (w.alloc (.cells #[.string ev, .iface gu gy, .string tg, .slice s1 ns s3, .int .i64 ol, .int .i64 oc] 115)) w.heap.size [.string ev, .iface gu gy, .string tg, .slice s1 ns s3, .int .i64 ol, .int .i64 oc] := Bn.new w [.string ev, .iface gu gy, .string tg, .slice s1 ns s3, .int .i64 ol, .int .i64 oc] 115 _ rfl
  cases h1 : plainB (bl ev) <;> cases h2 : plainB (bl tg) <;> cases bq <;> cases be
  all_goals (
    go_enter Tryz.func78, Tryz.ntmps78
    go_upto_region 1 with fail
    generalize (w.alloc (.cells #[.string ev, .iface gu gy, .string tg, .slice s1 ns s3, .int .i64 ol, .int .i64 oc] 115)) = wx at *
    have hB : Below wx.heap.size wx wx := Below.refl _ _
    obtain ⟨x0, _⟩ := hX 0 _ rfl
    obtain ⟨x1, _⟩ := hX 1 _ rfl
    obtain ⟨x2, _⟩ := hX 2 _ rfl
    obtain ⟨x3, _⟩ := hX 3 _ rfl
    obtain ⟨x4, _⟩ := hX 4 _ rfl
    obtain ⟨x5, _⟩ := hX 5 _ rfl
    go_wp2_with (first
      | (go_at_call 41; refine (rnameB _ _ (by assumption)).mono ?_; rintro e w1 ⟨rfl, b1⟩; simp only [h1, h2]; have hB := Below.nx hB b1; obtain ⟨x1, _⟩ := (hX.on hB) 1 _ rfl; obtain ⟨x2, _⟩ := (hX.on hB) 2 _ rfl; obtain ⟨x3, _⟩ := (hX.on hB) 3 _ rfl)
      | (go_at_call 121; refine (he _ (hal.trans (hB.mono hal.size))).mono ?_; rintro e w1 ⟨rfl, b1⟩; have hB := Below.nx hB b1; obtain ⟨x2, _⟩ := (hX.on hB) 2 _ rfl; obtain ⟨x3, _⟩ := (hX.on hB) 3 _ rfl)
      | (go_at_call 122; refine (hq _ (hal.trans (hB.mono hal.size))).mono ?_; rintro e w1 ⟨rfl, b1⟩; have hB := Below.nx hB b1; skip)
      | fail)
    go_ret
    exact ⟨rfl, hal.trans (hB.mono hal.size)⟩)
set_option maxRecDepth 100000 in
set_option maxHeartbeats 8000000 in
theorem everyOn_any  {ok : Nat → Prop} {w : World} {l : List (OnC)} {v : Value} (h : RdK ok w 6 (rOn ok w) l v) (hok : ∀ s ∈ l, OnK s) (hp : Pow w) :
    Calls Tryz.prog 77 #[v, .func (.func 78) #[] #[]] w fun e w' => e = .returned (.bool (l.all (onF))) ∧ Below w.heap.size w w' := by
  obtain ⟨a, cap, rfl, hlc, hcm⟩ := h.form
  unfold maxLen at hcm
  have HC := mkHid h
  have HK := mkHid hok
  obtain ⟨n, hn⟩ : ∃ n, l.length = n := ⟨_, rfl⟩
  rw [hn] at hlc ⊢
  have HN : Hid (l.length = n) := hn
  obtain ⟨f, hf⟩ : ∃ f : (OnC) → Bool, (onF) = f := ⟨_, rfl⟩
  rw [hf]
  have HF := mkHid hf
  obtain ⟨V, HA⟩ : ∃ V, l.all f = V := ⟨_, rfl⟩
  rw [HA]
  have HAA := mkHid HA
  clear h hok hn hf HA
  go_enter Tryz.func77, Tryz.ntmps77
  go_wp2
  go_loopw [9] (fun ix wr => ∃ (i : Nat), i ≤ n ∧ ix = .int .i64 (i : Int) ∧ Hid (∀ x ∈ l.take i, f x = true) ∧ Below w.heap.size w wr) (fun ix _ => n - (RowKit.intOf ix).toNat)
  case atStart => exact ⟨0, Nat.zero_le _, rfl, (show Hid _ from fun x hx => by simp at hx), Below.refl _ _⟩
  case round =>
    obtain ⟨i, hi, rfl, hT, hb⟩ := hrel
    by_cases hlt : i < n
    · have hil : i < l.length := by rw [HN.out]; exact hlt
      have HA := HAA.out
      obtain ⟨b, off, s1, s3, rfl, hbl, hSe, hc⟩ := onQ_at HC.out i hil
      have hko := HK.out _ (List.getElem_mem hil)
      obtain ⟨q, ho⟩ : ∃ o, l[i] = o := ⟨_, rfl⟩
      have HQ := mkHid ho
      rw [ho] at hSe hc hko
      obtain ⟨ns, hns⟩ : ∃ m, q.2.2.2.1.length = m := ⟨_, rfl⟩
      rw [hns] at hSe hc
      have hgd := rgrd_any hko
      obtain ⟨ev, hev, hevb, hevs⟩ := sV_out q.1 hko.1
      obtain ⟨tg, htg, htgb, htgs⟩ := sV_out q.2.2.1 hko.2.1
      have hfx : f q = (plainB (bl ev) && ((!q.2.1.1 || exF q.2.1.2) && (plainB (bl tg) && q.2.2.2.1.all setF))) := by rw [← HF.out, hevb, htgb]; rfl
      obtain ⟨gv, hgv⟩ : ∃ gv, gdV q.2.1 = gv := ⟨_, rfl⟩
      obtain ⟨be, hbe⟩ : ∃ be, (!q.2.1.1 || exF q.2.1.2) = be := ⟨_, rfl⟩
      obtain ⟨ol, oc, hov⟩ : ∃ ol oc, onV q = fun sl => [sV q.1, gdV q.2.1, sV q.2.2.1, sl, .int .i64 ol, .int .i64 oc] := ⟨_, _, rfl⟩
      rw [hov] at hc
      rw [hev, htg, hgv] at hc
      rw [hgv, hbe] at hgd
      rw [hbe] at hfx
      have HSE := mkHid hSe
      have HKO := mkHid hko
      clear ho hns hgv hov hSe hko hev htg hevb htgb hbe
      have i1 : (i : Int) < (n : Int) := by omega
      have i2 : (0 : Int) ≤ (i : Int) := by omega
      have C0 := (hb.cell (p := ⟨b, off + i * 6 + 0, none⟩) hbl).trans (hc 0 _ rfl)
      have C1 := (hb.cell (p := ⟨b, off + i * 6 + 1, none⟩) hbl).trans (hc 1 _ rfl)
      have C2 := (hb.cell (p := ⟨b, off + i * 6 + 2, none⟩) hbl).trans (hc 2 _ rfl)
      have C3 := (hb.cell (p := ⟨b, off + i * 6 + 3, none⟩) hbl).trans (hc 3 _ rfl)
      have C4 := (hb.cell (p := ⟨b, off + i * 6 + 4, none⟩) hbl).trans (hc 4 _ rfl)
      have C5 := (hb.cell (p := ⟨b, off + i * 6 + 5, none⟩) hbl).trans (hc 5 _ rfl)
      rw [Nat.add_zero] at C0
      clear hc
      rcases hgd with ⟨rfl, rfl⟩ | ⟨gu, gy, rfl, hex⟩
      · have hal : Below wr.heap.size wr (wr.alloc (.cells #[.string ev, .nilIface, .string tg, .slice s1 ns s3, .int .i64 ol, .int .i64 oc] 115)) := (Below.refl _ _).alloc (Nat.le_refl _) _
        have hX : Bn (wr.alloc (.cells #[.string ev, .nilIface, .string tg, .slice s1 ns s3, .int .i64 ol, .int .i64 oc] 115)) wr.heap.size [.string ev, .nilIface, .string tg, .slice s1 ns s3, .int .i64 ol, .int .i64 oc] := Bn.new wr [.string ev, .nilIface, .string tg, .slice s1 ns s3, .int .i64 ol, .int .i64 oc] 115 _ rfl
        have hbx := hb.trans (hal.mono hb.size)
        have hcall : ∀ w1, Below w.heap.size w w1 → Calls Tryz.prog 78 #[.agg #[.string ev, .nilIface, .string tg, .slice s1 ns s3, .int .i64 ol, .int .i64 oc]] w1 fun e w' => e = .returned (.bool (f q)) ∧ Below w1.heap.size w1 w' := fun w1 b1 => by
          rw [hfx]
          exact ron_nil ev tg ol oc s1 ns s3 _ w1 hevs htgs (fun w2 b2 => everySet_any (HSE.out.stay kp_set (ok' := ok) (fun b hb hl => ⟨hb, ((b2.block b (Nat.lt_of_lt_of_le hl b1.size)).trans (b1.block b hl))⟩)) HKO.out.2.2.2 ((hp.below b1).below b2))
        clear hfx hevs htgs
        have hac2 : Hid (f q = true → (∀ x ∈ l.take (i + 1), f x = true)) := fun hq => by
          rw [List.take_succ_eq_append_getElem hil, HQ.out]
          intro x hx
          rcases List.mem_append.1 hx with hx | hx
          · exact hT.out x hx
          · rw [List.mem_singleton.1 hx]; exact hq
        have hall : Hid (f q = false → l.all f = false) := fun hq => by
          show l.all f = false
          rw [List.all_eq_false]
          exact ⟨q, by rw [← HQ.out]; exact List.getElem_mem hil, by rw [hq]; decide⟩
        cases hfq : f q with
        | true =>
          rw [hfq] at hcall
          have hT2 : Hid (∀ x ∈ l.take (i + 1), f x = true) := hac2.out hfq
          clear hac2 hall hfq
          go_upto_region 4 with fail
          clear C0 C1 C2 C3 C4 C5
          generalize (wr.alloc (.cells #[.string ev, .nilIface, .string tg, .slice s1 ns s3, .int .i64 ol, .int .i64 oc] 115)) = wx at *
          obtain ⟨x0, _⟩ := hX 0 _ rfl
          obtain ⟨x1, _⟩ := hX 1 _ rfl
          obtain ⟨x2, _⟩ := hX 2 _ rfl
          obtain ⟨x3, _⟩ := hX 3 _ rfl
          obtain ⟨x4, _⟩ := hX 4 _ rfl
          obtain ⟨x5, _⟩ := hX 5 _ rfl
          go_wp2_with (first
            | (go_at_call 78; refine (hcall _ hbx).mono ?_; rintro e w1 ⟨rfl, b1⟩)
            | fail)
          have hb2 := hbx.trans (b1.mono hbx.size)
          go_wp2
          go_roundw
          case rel => exact ⟨i + 1, hlt, by go_num, hT2, hb2⟩
          case measure => simp [RowKit.intOf]; omega
        | false =>
          rw [hfq] at hcall
          have hA := hall.out hfq
          rw [hA] at HA
          subst HA
          clear hac2 hall hfq hA
          go_upto_region 4 with fail
          clear C0 C1 C2 C3 C4 C5
          generalize (wr.alloc (.cells #[.string ev, .nilIface, .string tg, .slice s1 ns s3, .int .i64 ol, .int .i64 oc] 115)) = wx at *
          obtain ⟨x0, _⟩ := hX 0 _ rfl
          obtain ⟨x1, _⟩ := hX 1 _ rfl
          obtain ⟨x2, _⟩ := hX 2 _ rfl
          obtain ⟨x3, _⟩ := hX 3 _ rfl
          obtain ⟨x4, _⟩ := hX 4 _ rfl
          obtain ⟨x5, _⟩ := hX 5 _ rfl
          go_wp2_with (first
            | (go_at_call 78; refine (hcall _ hbx).mono ?_; rintro e w1 ⟨rfl, b1⟩)
            | fail)
          go_ret
          exact ⟨rfl, hbx.trans (b1.mono hbx.size)⟩
      · have hal : Below wr.heap.size wr (wr.alloc (.cells #[.string ev, .iface gu gy, .string tg, .slice s1 ns s3, .int .i64 ol, .int .i64 oc] 115)) := (Below.refl _ _).alloc (Nat.le_refl _) _
        have hX : Bn (wr.alloc (.cells #[.string ev, .iface gu gy, .string tg, .slice s1 ns s3, .int .i64 ol, .int .i64 oc] 115)) wr.heap.size [.string ev, .iface gu gy, .string tg, .slice s1 ns s3, .int .i64 ol, .int .i64 oc] := Bn.new wr [.string ev, .iface gu gy, .string tg, .slice s1 ns s3, .int .i64 ol, .int .i64 oc] 115 _ rfl
        have hbx := hb.trans (hal.mono hb.size)
        have hcall : ∀ w1, Below w.heap.size w w1 → Calls Tryz.prog 78 #[.agg #[.string ev, .iface gu gy, .string tg, .slice s1 ns s3, .int .i64 ol, .int .i64 oc]] w1 fun e w' => e = .returned (.bool (f q)) ∧ Below w1.heap.size w1 w' := fun w1 b1 => by
          rw [hfx]
          exact ron_ifc ev tg gu gy ol oc s1 ns s3 _ _ w1 hevs htgs (fun w2 b2 => hex w2 ((hp.below b1).below b2)) (fun w2 b2 => everySet_any (HSE.out.stay kp_set (ok' := ok) (fun b hb hl => ⟨hb, ((b2.block b (Nat.lt_of_lt_of_le hl b1.size)).trans (b1.block b hl))⟩)) HKO.out.2.2.2 ((hp.below b1).below b2))
        clear hfx hevs htgs hex
        have hac2 : Hid (f q = true → (∀ x ∈ l.take (i + 1), f x = true)) := fun hq => by
          rw [List.take_succ_eq_append_getElem hil, HQ.out]
          intro x hx
          rcases List.mem_append.1 hx with hx | hx
          · exact hT.out x hx
          · rw [List.mem_singleton.1 hx]; exact hq
        have hall : Hid (f q = false → l.all f = false) := fun hq => by
          show l.all f = false
          rw [List.all_eq_false]
          exact ⟨q, by rw [← HQ.out]; exact List.getElem_mem hil, by rw [hq]; decide⟩
        cases hfq : f q with
        | true =>
          rw [hfq] at hcall
          have hT2 : Hid (∀ x ∈ l.take (i + 1), f x = true) := hac2.out hfq
          clear hac2 hall hfq
          go_upto_region 4 with fail
          clear C0 C1 C2 C3 C4 C5
          generalize (wr.alloc (.cells #[.string ev, .iface gu gy, .string tg, .slice s1 ns s3, .int .i64 ol, .int .i64 oc] 115)) = wx at *
          obtain ⟨x0, _⟩ := hX 0 _ rfl
          obtain ⟨x1, _⟩ := hX 1 _ rfl
          obtain ⟨x2, _⟩ := hX 2 _ rfl
          obtain ⟨x3, _⟩ := hX 3 _ rfl
          obtain ⟨x4, _⟩ := hX 4 _ rfl
          obtain ⟨x5, _⟩ := hX 5 _ rfl
          go_wp2_with (first
            | (go_at_call 78; refine (hcall _ hbx).mono ?_; rintro e w1 ⟨rfl, b1⟩)
            | fail)
          have hb2 := hbx.trans (b1.mono hbx.size)
          go_wp2
          go_roundw
          case rel => exact ⟨i + 1, hlt, by go_num, hT2, hb2⟩
          case measure => simp [RowKit.intOf]; omega
        | false =>
          rw [hfq] at hcall
          have hA := hall.out hfq
          rw [hA] at HA
          subst HA
          clear hac2 hall hfq hA
          go_upto_region 4 with fail
          clear C0 C1 C2 C3 C4 C5
          generalize (wr.alloc (.cells #[.string ev, .iface gu gy, .string tg, .slice s1 ns s3, .int .i64 ol, .int .i64 oc] 115)) = wx at *
          obtain ⟨x0, _⟩ := hX 0 _ rfl
          obtain ⟨x1, _⟩ := hX 1 _ rfl
          obtain ⟨x2, _⟩ := hX 2 _ rfl
          obtain ⟨x3, _⟩ := hX 3 _ rfl
          obtain ⟨x4, _⟩ := hX 4 _ rfl
          obtain ⟨x5, _⟩ := hX 5 _ rfl
          go_wp2_with (first
            | (go_at_call 78; refine (hcall _ hbx).mono ?_; rintro e w1 ⟨rfl, b1⟩)
            | fail)
          go_ret
          exact ⟨rfl, hbx.trans (b1.mono hbx.size)⟩
    · have i1 : ¬ (i : Int) < (n : Int) := by omega
      have hV : V = true := by
        rw [← HAA.out, List.all_eq_true]
        have hf := hT.out
        rw [List.take_of_length_le (by rw [HN.out]; omega)] at hf
        exact hf
      subst hV
      go_wp2
      go_ret
      exact ⟨rfl, hb⟩

theorem varQ_at {ok : Nat → Prop} {w : World} {l : List (List UInt8 × Int × Pl)} {a : Option Addr} {n cap : Nat} (h : RdK ok w 4 (rVar ok w) l (.slice a n cap)) (j : Nat) (hj : j < l.length) : ∃ b off, a = some ⟨b, off, none⟩ ∧ b < w.heap.size ∧ ∀ i u, (varV l[j])[i]? = some u → w.cell? ⟨b, off + j * 4 + i, none⟩ = some u := by
  obtain ⟨a1, cap1, he, h1, h2, h3⟩ := h
  simp only [Value.slice.injEq] at he
  obtain ⟨rfl, rfl, rfl⟩ := he
  obtain ⟨b, off, cs, ha, _, hb, hl, hr, hc⟩ := h3 j hj
  have hr : cs = varV l[j] := hr
  subst hr
  exact ⟨b, off, ha, hb, hc⟩

set_option maxRecDepth 100000 in
set_option maxHeartbeats 8000000 in
theorem rvar_any (s0 : ByteArray) (x pl pc : Int) (w : World) (hs0 : s0.size ≤ 140737488351232) : Calls Tryz.prog 44 #[.agg #[.string s0, .int .i64 x, .int .i64 pl, .int .i64 pc]] w fun e w' => e = .returned (.bool (plainB (bl s0) && decide (-1000000000 ≤ x ∧ x ≤ 1000000000))) ∧ Below w.heap.size w w' := by
  have hal : Below w.heap.size w (w.alloc (.cells #[.string s0, .int .i64 x, .int .i64 pl, .int .i64 pc] 53)) := (Below.refl w.heap.size w).alloc (Nat.le_refl _) _
  have hX : Bn (w.alloc (.cells #[.string s0, .int .i64 x, .int .i64 pl, .int .i64 pc] 53)) w.heap.size [.string s0, .int .i64 x, .int .i64 pl, .int .i64 pc] := Bn.new w [.string s0, .int .i64 x, .int .i64 pl, .int .i64 pc] 53 _ rfl
  cases h1 : plainB (bl s0) <;> by_cases h2 : -1000000000 ≤ x <;> by_cases h3 : x ≤ 1000000000
  all_goals try (exfalso; omega)
  all_goals simp only [h2, h3, and_self, and_true, true_and, and_false, false_and, decide_true, decide_false]
  all_goals (have H2 := mkHid h2; have H3 := mkHid h3)
  all_goals (
    go_enter Tryz.func44, Tryz.ntmps44
    go_upto_region 1 with fail
    generalize (w.alloc (.cells #[.string s0, .int .i64 x, .int .i64 pl, .int .i64 pc] 53)) = wx at *
    have hB : Below wx.heap.size wx wx := Below.refl _ _
    obtain ⟨x0, _⟩ := hX 0 _ rfl
    obtain ⟨x1, _⟩ := hX 1 _ rfl
    obtain ⟨x2, _⟩ := hX 2 _ rfl
    obtain ⟨x3, _⟩ := hX 3 _ rfl
    have h2 := H2.out
    have h3 := H3.out
    go_wp2_with (first
      | (go_at_call 41; refine (rnameB _ _ (by assumption)).mono ?_; rintro e w1 ⟨rfl, b1⟩; simp only [h1]; have hB := Below.nx hB b1; obtain ⟨x1, _⟩ := (hX.on hB) 1 _ rfl)
      | fail)
    go_ret
    exact ⟨rfl, hal.trans (hB.mono hal.size)⟩)
set_option maxRecDepth 100000 in
set_option maxHeartbeats 8000000 in
theorem everyVar_any  {ok : Nat → Prop} {w : World} {l : List (List UInt8 × Int × Pl)} {v : Value} (h : RdK ok w 4 (rVar ok w) l v) (hok : ∀ s ∈ l, s.1.length ≤ 140737488351232) :
    Calls Tryz.prog 43 #[v, .func (.func 44) #[] #[]] w fun e w' => e = .returned (.bool (l.all (varF))) ∧ Below w.heap.size w w' := by
  obtain ⟨a, cap, rfl, hlc, hcm⟩ := h.form
  unfold maxLen at hcm
  have HC := mkHid h
  have HK := mkHid hok
  obtain ⟨n, hn⟩ : ∃ n, l.length = n := ⟨_, rfl⟩
  rw [hn] at hlc ⊢
  have HN : Hid (l.length = n) := hn
  obtain ⟨f, hf⟩ : ∃ f : (List UInt8 × Int × Pl) → Bool, (varF) = f := ⟨_, rfl⟩
  rw [hf]
  have HF := mkHid hf
  obtain ⟨V, HA⟩ : ∃ V, l.all f = V := ⟨_, rfl⟩
  rw [HA]
  have HAA := mkHid HA
  clear h hok hn hf HA
  go_enter Tryz.func43, Tryz.ntmps43
  go_wp2
  go_loopw [9] (fun ix wr => ∃ (i : Nat), i ≤ n ∧ ix = .int .i64 (i : Int) ∧ Hid (∀ x ∈ l.take i, f x = true) ∧ Below w.heap.size w wr) (fun ix _ => n - (RowKit.intOf ix).toNat)
  case atStart => exact ⟨0, Nat.zero_le _, rfl, (show Hid _ from fun x hx => by simp at hx), Below.refl _ _⟩
  case round =>
    obtain ⟨i, hi, rfl, hT, hb⟩ := hrel
    by_cases hlt : i < n
    · have hil : i < l.length := by rw [HN.out]; exact hlt
      have HA := HAA.out
      obtain ⟨b, off, rfl, hbl, hc⟩ := varQ_at HC.out i hil
      have hks := HK.out _ (List.getElem_mem hil)
      obtain ⟨q, hq⟩ : ∃ q, l[i] = q := ⟨_, rfl⟩
      have HQ := mkHid hq
      rw [hq] at hc hks
      obtain ⟨s0, hs0, hsb, hss⟩ := sV_out q.1 hks
      obtain ⟨x, hx⟩ : ∃ x, q.2.1 = x := ⟨_, rfl⟩
      have hfx : f q = (plainB (bl s0) && decide (-1000000000 ≤ x ∧ x ≤ 1000000000)) := by rw [← HF.out, hsb, ← hx]; rfl
      obtain ⟨pl, pc, hov⟩ : ∃ pl pc, varV q = [sV q.1, .int .i64 q.2.1, .int .i64 pl, .int .i64 pc] := ⟨_, _, rfl⟩
      rw [hov, hs0, hx] at hc
      clear hs0 hq hks hx hov hsb
      have i1 : (i : Int) < (n : Int) := by omega
      have i2 : (0 : Int) ≤ (i : Int) := by omega
      have C0 := (hb.cell (p := ⟨b, off + i * 4 + 0, none⟩) hbl).trans (hc 0 _ rfl)
      have C1 := (hb.cell (p := ⟨b, off + i * 4 + 1, none⟩) hbl).trans (hc 1 _ rfl)
      have C2 := (hb.cell (p := ⟨b, off + i * 4 + 2, none⟩) hbl).trans (hc 2 _ rfl)
      have C3 := (hb.cell (p := ⟨b, off + i * 4 + 3, none⟩) hbl).trans (hc 3 _ rfl)
      rw [Nat.add_zero] at C0
      clear hc
      have hal : Below wr.heap.size wr (wr.alloc (.cells #[.string s0, .int .i64 x, .int .i64 pl, .int .i64 pc] 53)) := (Below.refl _ _).alloc (Nat.le_refl _) _
      have hX : Bn (wr.alloc (.cells #[.string s0, .int .i64 x, .int .i64 pl, .int .i64 pc] 53)) wr.heap.size [.string s0, .int .i64 x, .int .i64 pl, .int .i64 pc] := Bn.new wr [.string s0, .int .i64 x, .int .i64 pl, .int .i64 pc] 53 _ rfl
      have hbx := hb.trans (hal.mono hb.size)
      have hcall : ∀ w1, Below w.heap.size w w1 → Calls Tryz.prog 44 #[.agg #[.string s0, .int .i64 x, .int .i64 pl, .int .i64 pc]] w1 fun e w' => e = .returned (.bool (f q)) ∧ Below w1.heap.size w1 w' := fun w1 b1 => by
        rw [hfx]
        exact rvar_any s0 x pl pc w1 hss
      clear hfx hss
      have hac2 : Hid (f q = true → (∀ x ∈ l.take (i + 1), f x = true)) := fun hq => by
        rw [List.take_succ_eq_append_getElem hil, HQ.out]
        intro x hx
        rcases List.mem_append.1 hx with hx | hx
        · exact hT.out x hx
        · rw [List.mem_singleton.1 hx]; exact hq
      have hall : Hid (f q = false → l.all f = false) := fun hq => by
        show l.all f = false
        rw [List.all_eq_false]
        exact ⟨q, by rw [← HQ.out]; exact List.getElem_mem hil, by rw [hq]; decide⟩
      cases hfq : f q with
      | true =>
        rw [hfq] at hcall
        have hT2 : Hid (∀ x ∈ l.take (i + 1), f x = true) := hac2.out hfq
        clear hac2 hall hfq
        go_upto_region 4 with fail
        clear C0 C1 C2 C3
        generalize (wr.alloc (.cells #[.string s0, .int .i64 x, .int .i64 pl, .int .i64 pc] 53)) = wx at *
        obtain ⟨x0, _⟩ := hX 0 _ rfl
        obtain ⟨x1, _⟩ := hX 1 _ rfl
        obtain ⟨x2, _⟩ := hX 2 _ rfl
        obtain ⟨x3, _⟩ := hX 3 _ rfl
        go_wp2_with (first
          | (go_at_call 44; refine (hcall _ hbx).mono ?_; rintro e w1 ⟨rfl, b1⟩)
          | fail)
        have hb2 := hbx.trans (b1.mono hbx.size)
        go_wp2
        go_roundw
        case rel => exact ⟨i + 1, hlt, by go_num, hT2, hb2⟩
        case measure => simp [RowKit.intOf]; omega
      | false =>
        rw [hfq] at hcall
        have hA := hall.out hfq
        rw [hA] at HA
        subst HA
        clear hac2 hall hfq hA
        go_upto_region 4 with fail
        clear C0 C1 C2 C3
        generalize (wr.alloc (.cells #[.string s0, .int .i64 x, .int .i64 pl, .int .i64 pc] 53)) = wx at *
        obtain ⟨x0, _⟩ := hX 0 _ rfl
        obtain ⟨x1, _⟩ := hX 1 _ rfl
        obtain ⟨x2, _⟩ := hX 2 _ rfl
        obtain ⟨x3, _⟩ := hX 3 _ rfl
        go_wp2_with (first
          | (go_at_call 44; refine (hcall _ hbx).mono ?_; rintro e w1 ⟨rfl, b1⟩)
          | fail)
        go_ret
        exact ⟨rfl, hbx.trans (b1.mono hbx.size)⟩
    · have i1 : ¬ (i : Int) < (n : Int) := by omega
      have hV : V = true := by
        rw [← HAA.out, List.all_eq_true]
        have hf := hT.out
        rw [List.take_of_length_le (by rw [HN.out]; omega)] at hf
        exact hf
      subst hV
      go_wp2
      go_ret
      exact ⟨rfl, hb⟩


def stH (h : HdC) : HdC := ((h.1.1, (0, 0)), h.2.1, h.2.2.1, h.2.2.2.1, h.2.2.2.2.map stO)
def HdOk (h : HdC) : Prop := h.1.1.length ≤ 140737488351232 ∧ h.2.2.1.1.length ≤ 140737488351232 ∧ h.2.2.1.2.length ≤ 140737488351232 ∧ h.2.2.2.2.length ≤ 100000 ∧ ∀ o ∈ h.2.2.2.2, OnOk o
/-- A state stripped by itself: what lies in it is as it was, in the memory that was. -/
def rHf (d : Nat) (okO : Nat → Prop) (w0 : World) (ok : Nat → Prop) (w : World) (t : St (d + 1)) (cs : List Value) : Prop := ∃ so si, cs = hdV (stH t.1) so si ∧ RdK ok w 6 (rOn ok w) (t.1.2.2.2.2.map stO) so ∧ RdK okO w0 11 (rSt d okO w0) t.2 si
theorem stQ_at {ok : Nat → Prop} {w : World} {d : Nat} {l : List (St (d + 1))} {a : Option Addr} {n cap : Nat} (h : RdK ok w 11 (rSt (d + 1) ok w) l (.slice a n cap)) (j : Nat) (hj : j < l.length) : ∃ b off p1 p3 p4 p6, a = some ⟨b, off, none⟩ ∧ b < w.heap.size ∧ RdK ok w 6 (rOn ok w) l[j].1.2.2.2.2 (.slice p1 l[j].1.2.2.2.2.length p3) ∧ RdK ok w 11 (rSt d ok w) l[j].2 (.slice p4 l[j].2.length p6) ∧ ∀ i u, (hdV l[j].1 (.slice p1 l[j].1.2.2.2.2.length p3) (.slice p4 l[j].2.length p6))[i]? = some u → w.cell? ⟨b, off + j * 11 + i, none⟩ = some u := by
  obtain ⟨a1, cap1, he, h1, h2, h3⟩ := h
  simp only [Value.slice.injEq] at he
  obtain ⟨rfl, rfl, rfl⟩ := he
  obtain ⟨b, off, cs, ha, _, hb, hl, ⟨so, si, rfl, hs, hi⟩, hc⟩ := h3 j hj
  obtain ⟨s1, s3, rfl, _⟩ := hs.form
  obtain ⟨s4, s6, rfl, _⟩ := hi.form
  exact ⟨b, off, s1, s3, s4, s6, ha, hb, hs, hi, hc⟩

def kR (sd su : ByteArray) (sw sr : Int) (sb se : Bool) : Bool := if sd.toList = [] ∧ su.toList = [] ∧ sw = 0 ∧ (sr == 0) = true then !sb || !se else !sb && !se && plainB (bl sd) && plainB (bl su) && nbB sw && nbB sr
set_option maxRecDepth 100000 in
set_option maxHeartbeats 8000000 in
theorem rknd_any (sn : ByteArray) (sl sc : Int) (sb se : Bool) (sd su : ByteArray) (sw sr : Int) (p1 : Option Addr) (m p3 : Nat) (p4 : Option Addr) (ni p6 : Nat) (w : World) (hsd : sd.size ≤ 140737488351232) (hsu : su.size ≤ 140737488351232) : Calls Tryz.prog 76 #[.agg #[.string sn, .int .i64 sl, .int .i64 sc, .bool sb, .bool se, .string sd, .string su, .int .i64 sw, .int .i64 sr, .slice p1 m p3, .slice p4 ni p6]] w fun e w' => e = .returned (.bool (kR sd su sw sr sb se)) ∧ Below w.heap.size w w' := by
  have hal : Below w.heap.size w (w.alloc (.cells #[.string sn, .int .i64 sl, .int .i64 sc, .bool sb, .bool se, .string sd, .string su, .int .i64 sw, .int .i64 sr, .slice p1 m p3, .slice p4 ni p6] 49)) := (Below.refl w.heap.size w).alloc (Nat.le_refl _) _
  have hX : Bn (w.alloc (.cells #[.string sn, .int .i64 sl, .int .i64 sc, .bool sb, .bool se, .string sd, .string su, .int .i64 sw, .int .i64 sr, .slice p1 m p3, .slice p4 ni p6] 49)) w.heap.size [.string sn, .int .i64 sl, .int .i64 sc, .bool sb, .bool se, .string sd, .string su, .int .i64 sw, .int .i64 sr, .slice p1 m p3, .slice p4 ni p6] := Bn.new w [.string sn, .int .i64 sl, .int .i64 sc, .bool sb, .bool se, .string sd, .string su, .int .i64 sw, .int .i64 sr, .slice p1 m p3, .slice p4 ni p6] 49 _ rfl
  all_goals (
    go_enter Tryz.func76, Tryz.ntmps76
    go_upto_region 1 with fail
    generalize (w.alloc (.cells #[.string sn, .int .i64 sl, .int .i64 sc, .bool sb, .bool se, .string sd, .string su, .int .i64 sw, .int .i64 sr, .slice p1 m p3, .slice p4 ni p6] 49)) = wx at *
    have hB : Below wx.heap.size wx wx := Below.refl _ _
    obtain ⟨x0, _⟩ := hX 0 _ rfl
    obtain ⟨x1, _⟩ := hX 1 _ rfl
    obtain ⟨x2, _⟩ := hX 2 _ rfl
    obtain ⟨x3, _⟩ := hX 3 _ rfl
    obtain ⟨x4, _⟩ := hX 4 _ rfl
    obtain ⟨x5, _⟩ := hX 5 _ rfl
    obtain ⟨x6, _⟩ := hX 6 _ rfl
    obtain ⟨x7, _⟩ := hX 7 _ rfl
    obtain ⟨x8, _⟩ := hX 8 _ rfl
    obtain ⟨x9, _⟩ := hX 9 _ rfl
    obtain ⟨x10, _⟩ := hX 10 _ rfl
    go_wp2_with (first
      | (go_at_call 41; refine (rnameB _ _ (by assumption)).mono ?_; rintro e w1 ⟨rfl, b1⟩; have hB := Below.nx hB b1; obtain ⟨x5, _⟩ := (hX.on hB) 5 _ rfl; obtain ⟨x6, _⟩ := (hX.on hB) 6 _ rfl; obtain ⟨x7, _⟩ := (hX.on hB) 7 _ rfl; obtain ⟨x8, _⟩ := (hX.on hB) 8 _ rfl)
      | (go_at_call 42; refine (rnum_any _ _).mono ?_; rintro e w1 ⟨rfl, b1⟩; have hB := Below.nx hB b1; obtain ⟨x7, _⟩ := (hX.on hB) 7 _ rfl; obtain ⟨x8, _⟩ := (hX.on hB) 8 _ rfl)
      | fail)
    all_goals (
      go_ret
      exact ⟨by simp [kR, *], hal.trans (hB.mono hal.size)⟩))

def HdK (h : HdC) : Prop := h.1.1.length ≤ 140737488351232 ∧ h.2.2.1.1.length ≤ 140737488351232 ∧ h.2.2.1.2.length ≤ 140737488351232 ∧ ∀ o ∈ h.2.2.2.2, OnK o
def StK : (d : Nat) → St d → Prop
  | 0, t => Empty.elim t
  | d + 1, t => HdK t.1 ∧ ∀ x ∈ t.2, StK d x
theorem kR_eq (sd su : ByteArray) (h : HdC) (h1 : bl sd = h.2.2.1.1) (h2 : bl su = h.2.2.1.2) : kR sd su h.2.2.2.1.1 h.2.2.2.1.2 h.2.1.1 h.2.1.2 = kndF h := by
  have e1 : sd.toList = bl sd := ByteArray.toList_eq _
  have e2 : su.toList = bl su := ByteArray.toList_eq _
  unfold kR kndF stepB
  rw [e1, e2, ← h1, ← h2]
  by_cases a : bl sd = [] <;> by_cases b : bl su = [] <;> by_cases c : h.2.2.2.1.1 = 0 <;> by_cases e : h.2.2.2.1.2 = 0 <;> simp [a, b, c, e]
theorem hd_out (h : HdC) (h1 : h.1.1.length ≤ 140737488351232) (h2 : h.2.2.1.1.length ≤ 140737488351232) (h3 : h.2.2.1.2.length ≤ 140737488351232) : ∃ (sn : ByteArray) (sl sc : Int) (sb se : Bool) (sd su : ByteArray) (sw sr : Int), hdV h = (fun so si => [.string sn, .int .i64 sl, .int .i64 sc, .bool sb, .bool se, .string sd, .string su, .int .i64 sw, .int .i64 sr, so, si]) ∧ plainB h.1.1 = plainB (bl sn) ∧ kndF h = kR sd su sw sr sb se ∧ sn.size ≤ 140737488351232 ∧ sd.size ≤ 140737488351232 ∧ su.size ≤ 140737488351232 := by
  obtain ⟨sn, a1, a2, a3⟩ := sV_out h.1.1 h1
  obtain ⟨sd, b1, b2, b3⟩ := sV_out h.2.2.1.1 h2
  obtain ⟨su, c1, c2, c3⟩ := sV_out h.2.2.1.2 h3
  refine ⟨sn, h.1.2.1, h.1.2.2, h.2.1.1, h.2.1.2, sd, su, h.2.2.2.1.1, h.2.2.2.1.2, ?_, by rw [a2], (kR_eq sd su h b2 c2).symm, a3, b3, c3⟩
  funext so si
  unfold hdV
  rw [a1, b1, c1]
set_option maxRecDepth 100000 in
set_option maxHeartbeats 8000000 in
theorem rst1_any (sn : ByteArray) (sl sc : Int) (sb se : Bool) (sd su : ByteArray) (sw sr : Int) (p1 : Option Addr) (m p3 : Nat) (p4 : Option Addr) (ni p6 : Nat) (kb : Nat) (n : Int) (bk bo bi : Bool) (w : World) (h0 : 0 ≤ n) (hkl : kb < w.heap.size) (hkc : w.cell? ⟨kb, 0, none⟩ = some (.int .i64 n)) (hsn : sn.size ≤ 140737488351232) (hk : ∀ w1, Below w.heap.size w w1 → Calls Tryz.prog 76 #[.agg #[.string sn, .int .i64 sl, .int .i64 sc, .bool sb, .bool se, .string sd, .string su, .int .i64 sw, .int .i64 sr, .slice p1 m p3, .slice p4 ni p6]] w1 fun e w' => e = .returned (.bool bk) ∧ Below w1.heap.size w1 w') (ho : ∀ w1, Below w.heap.size w w1 → Calls Tryz.prog 77 #[.slice p1 m p3, .func (.func 78) #[] #[]] w1 fun e w' => e = .returned (.bool bo) ∧ Below w1.heap.size w1 w') (hi : ∀ w1, Below w.heap.size w w1 → Calls Tryz.prog 45 #[.slice p4 ni p6, .int .i64 (n + 1)] w1 fun e w' => e = .returned (.bool bi) ∧ Below w1.heap.size w1 w') : Calls Tryz.prog 75 #[.agg #[.string sn, .int .i64 sl, .int .i64 sc, .bool sb, .bool se, .string sd, .string su, .int .i64 sw, .int .i64 sr, .slice p1 m p3, .slice p4 ni p6], .pointer (some ⟨kb, 0, none⟩)] w fun e w' => e = .returned (.bool (decide (n ≤ 6) && plainB (bl sn) && bk && bo && bi)) ∧ Below w.heap.size w w' := by
  have hal : Below w.heap.size w (w.alloc (.cells #[.string sn, .int .i64 sl, .int .i64 sc, .bool sb, .bool se, .string sd, .string su, .int .i64 sw, .int .i64 sr, .slice p1 m p3, .slice p4 ni p6] 49)) := (Below.refl w.heap.size w).alloc (Nat.le_refl _) _
  have hX : Bn (w.alloc (.cells #[.string sn, .int .i64 sl, .int .i64 sc, .bool sb, .bool se, .string sd, .string su, .int .i64 sw, .int .i64 sr, .slice p1 m p3, .slice p4 ni p6] 49)) w.heap.size [.string sn, .int .i64 sl, .int .i64 sc, .bool sb, .bool se, .string sd, .string su, .int .i64 sw, .int .i64 sr, .slice p1 m p3, .slice p4 ni p6] := Bn.new w [.string sn, .int .i64 sl, .int .i64 sc, .bool sb, .bool se, .string sd, .string su, .int .i64 sw, .int .i64 sr, .slice p1 m p3, .slice p4 ni p6] 49 _ rfl
  by_cases hn6 : n ≤ 6
  all_goals (
    go_enter Tryz.func75, Tryz.ntmps75
    go_upto_region 1 with fail
    generalize (w.alloc (.cells #[.string sn, .int .i64 sl, .int .i64 sc, .bool sb, .bool se, .string sd, .string su, .int .i64 sw, .int .i64 sr, .slice p1 m p3, .slice p4 ni p6] 49)) = wx at *
    have hB : Below wx.heap.size wx wx := Below.refl _ _
    obtain ⟨x0, _⟩ := hX 0 _ rfl
    obtain ⟨x1, _⟩ := hX 1 _ rfl
    obtain ⟨x2, _⟩ := hX 2 _ rfl
    obtain ⟨x3, _⟩ := hX 3 _ rfl
    obtain ⟨x4, _⟩ := hX 4 _ rfl
    obtain ⟨x5, _⟩ := hX 5 _ rfl
    obtain ⟨x6, _⟩ := hX 6 _ rfl
    obtain ⟨x7, _⟩ := hX 7 _ rfl
    obtain ⟨x8, _⟩ := hX 8 _ rfl
    obtain ⟨x9, _⟩ := hX 9 _ rfl
    obtain ⟨x10, _⟩ := hX 10 _ rfl
    have kc := (hal.cell (p := ⟨kb, 0, none⟩) hkl).trans hkc
    go_wp2_with (first
      | (go_at_call 41; refine (rnameB _ _ (by assumption)).mono ?_; rintro e w1 ⟨rfl, b1⟩; have hB := Below.nx hB b1; have kc := ((hal.trans (hB.mono hal.size)).cell (p := ⟨kb, 0, none⟩) hkl).trans hkc; obtain ⟨x0, _⟩ := (hX.on hB) 0 _ rfl; obtain ⟨x1, _⟩ := (hX.on hB) 1 _ rfl; obtain ⟨x2, _⟩ := (hX.on hB) 2 _ rfl; obtain ⟨x3, _⟩ := (hX.on hB) 3 _ rfl; obtain ⟨x4, _⟩ := (hX.on hB) 4 _ rfl; obtain ⟨x5, _⟩ := (hX.on hB) 5 _ rfl; obtain ⟨x6, _⟩ := (hX.on hB) 6 _ rfl; obtain ⟨x7, _⟩ := (hX.on hB) 7 _ rfl; obtain ⟨x8, _⟩ := (hX.on hB) 8 _ rfl; obtain ⟨x9, _⟩ := (hX.on hB) 9 _ rfl; obtain ⟨x10, _⟩ := (hX.on hB) 10 _ rfl)
      | (go_at_call 76; refine (hk _ (hal.trans (hB.mono hal.size))).mono ?_; rintro e w1 ⟨rfl, b1⟩; have hB := Below.nx hB b1; have kc := ((hal.trans (hB.mono hal.size)).cell (p := ⟨kb, 0, none⟩) hkl).trans hkc; obtain ⟨x9, _⟩ := (hX.on hB) 9 _ rfl; obtain ⟨x10, _⟩ := (hX.on hB) 10 _ rfl)
      | (go_at_call 77; refine (ho _ (hal.trans (hB.mono hal.size))).mono ?_; rintro e w1 ⟨rfl, b1⟩; have hB := Below.nx hB b1; have kc := ((hal.trans (hB.mono hal.size)).cell (p := ⟨kb, 0, none⟩) hkl).trans hkc; obtain ⟨x10, _⟩ := (hX.on hB) 10 _ rfl)
      | (go_at_call 45; refine (hi _ (hal.trans (hB.mono hal.size))).mono ?_; rintro e w1 ⟨rfl, b1⟩; have hB := Below.nx hB b1; have kc := ((hal.trans (hB.mono hal.size)).cell (p := ⟨kb, 0, none⟩) hkl).trans hkc; skip)
      | fail)
    all_goals (
      go_ret
      exact ⟨by first | (simp [*]; done) | (simp [*]; intro hz; omega), hal.trans (hB.mono hal.size)⟩))

set_option maxRecDepth 100000 in
set_option maxHeartbeats 8000000 in
theorem everySt_any {d kb n0 : Nat} {ok : Nat → Prop} {w : World} {l : List (St (d + 1))} {v : Value} (h : RdK ok w 11 (rSt (d + 1) ok w) l v) (hok : ∀ s ∈ l, HdK s.1) (hin : ∀ t ∈ l, ∀ (w1 : World) (v1 : Value), RdK ok w1 11 (rSt d ok w1) t.2 v1 → Pow w1 → Calls Tryz.prog 45 #[v1, .int .i64 ((n0 : Int) + 1)] w1 fun e w' => e = .returned (.bool (t.2.all (stF d (n0 + 1)))) ∧ Below w1.heap.size w1 w') (hp : Pow w) (hkl : kb < w.heap.size) (hkc : w.cell? ⟨kb, 0, none⟩ = some (.int .i64 (n0 : Int))) :
    Calls Tryz.prog 74 #[v, .func (.func 75) #[] #[.pointer (some ⟨kb, 0, none⟩)]] w fun e w' => e = .returned (.bool (l.all (stF (d + 1) n0))) ∧ Below w.heap.size w w' := by
  obtain ⟨a, cap, rfl, hlc, hcm⟩ := h.form
  unfold maxLen at hcm
  have HC := mkHid h
  have HK := mkHid hok
  have HI := mkHid hin
  obtain ⟨n, hn⟩ : ∃ n, l.length = n := ⟨_, rfl⟩
  rw [hn] at hlc ⊢
  have HN : Hid (l.length = n) := hn
  obtain ⟨f, hf⟩ : ∃ f : (St (d + 1)) → Bool, (stF (d + 1) n0) = f := ⟨_, rfl⟩
  rw [hf]
  have HF := mkHid hf
  obtain ⟨V, HA⟩ : ∃ V, l.all f = V := ⟨_, rfl⟩
  rw [HA]
  have HAA := mkHid HA
  clear h hok hin hn hf HA
  go_enter Tryz.func74, Tryz.ntmps74
  go_wp2
  go_loopw [9] (fun ix wr => ∃ (i : Nat), i ≤ n ∧ ix = .int .i64 (i : Int) ∧ Hid (∀ x ∈ l.take i, f x = true) ∧ Below w.heap.size w wr) (fun ix _ => n - (RowKit.intOf ix).toNat)
  case atStart => exact ⟨0, Nat.zero_le _, rfl, (show Hid _ from fun x hx => by simp at hx), Below.refl _ _⟩
  case round =>
    obtain ⟨i, hi, rfl, hT, hb⟩ := hrel
    by_cases hlt : i < n
    · have hil : i < l.length := by rw [HN.out]; exact hlt
      have HA := HAA.out
      obtain ⟨b, off, p1, p3, p4, p6, rfl, hbl, hOn, hIn, hc⟩ := stQ_at HC.out i hil
      have hmem := List.getElem_mem hil
      have hko := HK.out _ hmem
      have hiq := HI.out _ hmem
      obtain ⟨q, ht⟩ : ∃ t, l[i] = t := ⟨_, rfl⟩
      have HQ := mkHid ht
      rw [ht] at hOn hIn hc hko hiq
      obtain ⟨sn, sl, sc, sb, se, sd, su, sw, sr, hsv, hpn, hkd, hsn, hsd, hsu⟩ := hd_out q.1 hko.1 hko.2.1 hko.2.2.1
      have hfx : f q = (decide ((n0 : Int) ≤ 6) && plainB (bl sn) && kR sd su sw sr sb se && q.1.2.2.2.2.all onF && q.2.all (stF d (n0 + 1))) := by
        rw [← HF.out, ← hpn, ← hkd]
        have e : decide ((n0 : Int) ≤ 6) = decide (n0 ≤ 6) := by by_cases hh : n0 ≤ 6 <;> simp [hh] <;> omega
        rw [e]; rfl
      obtain ⟨m, hm⟩ : ∃ m, q.1.2.2.2.2.length = m := ⟨_, rfl⟩
      obtain ⟨ni, hni⟩ : ∃ m, q.2.length = m := ⟨_, rfl⟩
      rw [hm] at hOn hc
      rw [hni] at hIn hc
      rw [hsv] at hc
      have HON := mkHid hOn
      have HIQ := mkHid hiq
      have HIN := mkHid hIn
      have HKO := mkHid hko
      clear hmem ht hm hni hsv hOn hIn hko hiq hpn hkd
      have i1 : (i : Int) < (n : Int) := by omega
      have i2 : (0 : Int) ≤ (i : Int) := by omega
      have C0 := (hb.cell (p := ⟨b, off + i * 11 + 0, none⟩) hbl).trans (hc 0 _ rfl)
      have C1 := (hb.cell (p := ⟨b, off + i * 11 + 1, none⟩) hbl).trans (hc 1 _ rfl)
      have C2 := (hb.cell (p := ⟨b, off + i * 11 + 2, none⟩) hbl).trans (hc 2 _ rfl)
      have C3 := (hb.cell (p := ⟨b, off + i * 11 + 3, none⟩) hbl).trans (hc 3 _ rfl)
      have C4 := (hb.cell (p := ⟨b, off + i * 11 + 4, none⟩) hbl).trans (hc 4 _ rfl)
      have C5 := (hb.cell (p := ⟨b, off + i * 11 + 5, none⟩) hbl).trans (hc 5 _ rfl)
      have C6 := (hb.cell (p := ⟨b, off + i * 11 + 6, none⟩) hbl).trans (hc 6 _ rfl)
      have C7 := (hb.cell (p := ⟨b, off + i * 11 + 7, none⟩) hbl).trans (hc 7 _ rfl)
      have C8 := (hb.cell (p := ⟨b, off + i * 11 + 8, none⟩) hbl).trans (hc 8 _ rfl)
      have C9 := (hb.cell (p := ⟨b, off + i * 11 + 9, none⟩) hbl).trans (hc 9 _ rfl)
      have C10 := (hb.cell (p := ⟨b, off + i * 11 + 10, none⟩) hbl).trans (hc 10 _ rfl)
      rw [Nat.add_zero] at C0
      clear hc
      have hal : Below wr.heap.size wr (wr.alloc (.cells #[.string sn, .int .i64 sl, .int .i64 sc, .bool sb, .bool se, .string sd, .string su, .int .i64 sw, .int .i64 sr, .slice p1 m p3, .slice p4 ni p6] 49)) := (Below.refl _ _).alloc (Nat.le_refl _) _
      have hX : Bn (wr.alloc (.cells #[.string sn, .int .i64 sl, .int .i64 sc, .bool sb, .bool se, .string sd, .string su, .int .i64 sw, .int .i64 sr, .slice p1 m p3, .slice p4 ni p6] 49)) wr.heap.size [.string sn, .int .i64 sl, .int .i64 sc, .bool sb, .bool se, .string sd, .string su, .int .i64 sw, .int .i64 sr, .slice p1 m p3, .slice p4 ni p6] := Bn.new wr [.string sn, .int .i64 sl, .int .i64 sc, .bool sb, .bool se, .string sd, .string su, .int .i64 sw, .int .i64 sr, .slice p1 m p3, .slice p4 ni p6] 49 _ rfl
      have hbx := hb.trans (hal.mono hb.size)
      have hcall : ∀ w1, Below w.heap.size w w1 → Calls Tryz.prog 75 #[.agg #[.string sn, .int .i64 sl, .int .i64 sc, .bool sb, .bool se, .string sd, .string su, .int .i64 sw, .int .i64 sr, .slice p1 m p3, .slice p4 ni p6], .pointer (some ⟨kb, 0, none⟩)] w1 fun e w' => e = .returned (.bool (f q)) ∧ Below w1.heap.size w1 w' := fun w1 b1 => by
        rw [hfx]
        exact rst1_any sn sl sc sb se sd su sw sr p1 m p3 p4 ni p6 kb n0 _ _ _ w1 (by omega) (Nat.lt_of_lt_of_le hkl b1.size) ((b1.cell (p := ⟨kb, 0, none⟩) hkl).trans hkc) hsn (fun w2 b2 => rknd_any sn sl sc sb se sd su sw sr p1 m p3 p4 ni p6 w2 hsd hsu) (fun w2 b2 => everyOn_any (HON.out.stay kp_on (ok' := ok) (fun b hb hl => ⟨hb, ((b2.block b (Nat.lt_of_lt_of_le hl b1.size)).trans (b1.block b hl))⟩)) HKO.out.2.2.2 ((hp.below b1).below b2)) (fun w2 b2 => HIQ.out w2 _ (HIN.out.stay (kp_st d) (ok' := ok) (fun b hb hl => ⟨hb, ((b2.block b (Nat.lt_of_lt_of_le hl b1.size)).trans (b1.block b hl))⟩)) ((hp.below b1).below b2))
      clear hfx hsn hsd hsu
      have hac2 : Hid (f q = true → (∀ x ∈ l.take (i + 1), f x = true)) := fun hq => by
        rw [List.take_succ_eq_append_getElem hil, HQ.out]
        intro x hx
        rcases List.mem_append.1 hx with hx | hx
        · exact hT.out x hx
        · rw [List.mem_singleton.1 hx]; exact hq
      have hall : Hid (f q = false → l.all f = false) := fun hq => by
        show l.all f = false
        rw [List.all_eq_false]
        exact ⟨q, by rw [← HQ.out]; exact List.getElem_mem hil, by rw [hq]; decide⟩
      cases hfq : f q with
      | true =>
        rw [hfq] at hcall
        have hT2 : Hid (∀ x ∈ l.take (i + 1), f x = true) := hac2.out hfq
        clear hac2 hall hfq
        go_upto_region 4 with fail
        clear C0 C1 C2 C3 C4 C5 C6 C7 C8 C9 C10
        generalize (wr.alloc (.cells #[.string sn, .int .i64 sl, .int .i64 sc, .bool sb, .bool se, .string sd, .string su, .int .i64 sw, .int .i64 sr, .slice p1 m p3, .slice p4 ni p6] 49)) = wx at *
        obtain ⟨x0, _⟩ := hX 0 _ rfl
        obtain ⟨x1, _⟩ := hX 1 _ rfl
        obtain ⟨x2, _⟩ := hX 2 _ rfl
        obtain ⟨x3, _⟩ := hX 3 _ rfl
        obtain ⟨x4, _⟩ := hX 4 _ rfl
        obtain ⟨x5, _⟩ := hX 5 _ rfl
        obtain ⟨x6, _⟩ := hX 6 _ rfl
        obtain ⟨x7, _⟩ := hX 7 _ rfl
        obtain ⟨x8, _⟩ := hX 8 _ rfl
        obtain ⟨x9, _⟩ := hX 9 _ rfl
        obtain ⟨x10, _⟩ := hX 10 _ rfl
        go_wp2_with (first
          | (go_at_call 75; refine (hcall _ hbx).mono ?_; rintro e w1 ⟨rfl, b1⟩)
          | fail)
        have hb2 := hbx.trans (b1.mono hbx.size)
        go_wp2
        go_roundw
        case rel => exact ⟨i + 1, hlt, by go_num, hT2, hb2⟩
        case measure => simp [RowKit.intOf]; omega
      | false =>
        rw [hfq] at hcall
        have hA := hall.out hfq
        rw [hA] at HA
        subst HA
        clear hac2 hall hfq hA
        go_upto_region 4 with fail
        clear C0 C1 C2 C3 C4 C5 C6 C7 C8 C9 C10
        generalize (wr.alloc (.cells #[.string sn, .int .i64 sl, .int .i64 sc, .bool sb, .bool se, .string sd, .string su, .int .i64 sw, .int .i64 sr, .slice p1 m p3, .slice p4 ni p6] 49)) = wx at *
        obtain ⟨x0, _⟩ := hX 0 _ rfl
        obtain ⟨x1, _⟩ := hX 1 _ rfl
        obtain ⟨x2, _⟩ := hX 2 _ rfl
        obtain ⟨x3, _⟩ := hX 3 _ rfl
        obtain ⟨x4, _⟩ := hX 4 _ rfl
        obtain ⟨x5, _⟩ := hX 5 _ rfl
        obtain ⟨x6, _⟩ := hX 6 _ rfl
        obtain ⟨x7, _⟩ := hX 7 _ rfl
        obtain ⟨x8, _⟩ := hX 8 _ rfl
        obtain ⟨x9, _⟩ := hX 9 _ rfl
        obtain ⟨x10, _⟩ := hX 10 _ rfl
        go_wp2_with (first
          | (go_at_call 75; refine (hcall _ hbx).mono ?_; rintro e w1 ⟨rfl, b1⟩)
          | fail)
        go_ret
        exact ⟨rfl, hbx.trans (b1.mono hbx.size)⟩
    · have i1 : ¬ (i : Int) < (n : Int) := by omega
      have hV : V = true := by
        rw [← HAA.out, List.all_eq_true]
        have hf := hT.out
        rw [List.take_of_length_le (by rw [HN.out]; omega)] at hf
        exact hf
      subst hV
      go_wp2
      go_ret
      exact ⟨rfl, hb⟩

def RsK (d : Nat) : Prop := ∀ (ok : Nat → Prop) (w : World) (l : List (St d)) (v : Value) (n0 : Nat), RdK ok w 11 (rSt d ok w) l v → (∀ t ∈ l, StK d t) → Pow w → Calls Tryz.prog 45 #[v, .int .i64 (n0 : Int)] w fun e w' => e = .returned (.bool (l.all (stF d n0))) ∧ Below w.heap.size w w'
theorem rsts_walk {w : World} {v : Value} {n : Int} {b : Bool} (hv : ∃ a m cap, v = .slice a m cap) (hk : ∀ T, Calls Tryz.prog 74 #[v, .func (.func 75) #[] #[.pointer (some ⟨w.heap.size, 0, none⟩)]] (w.alloc (.cells #[.int .i64 n] T)) fun e w' => e = .returned (.bool b) ∧ Below (w.alloc (.cells #[.int .i64 n] T)).heap.size (w.alloc (.cells #[.int .i64 n] T)) w') : Calls Tryz.prog 45 #[v, .int .i64 n] w fun e w' => e = .returned (.bool b) ∧ Below w.heap.size w w' := by
  have hal : ∀ T, Below w.heap.size w (w.alloc (.cells #[.int .i64 n] T)) := fun T => (Below.refl w.heap.size w).alloc (Nat.le_refl _) _
  obtain ⟨p4, ni, p6, rfl⟩ := hv
  go_enter Tryz.func45, Tryz.ntmps45
  go_upto_region 1 with fail
  go_wp2_with (first
    | (go_at_call 74; refine (hk _).mono ?_; rintro e w1 ⟨rfl, b1⟩)
    | fail)
  go_ret
  exact ⟨rfl, (hal _).trans (b1.mono (hal _).size)⟩
theorem rsts_in {d : Nat} (ok : Nat → Prop) (w : World) (l : List (St (d + 1))) (v : Value) (n0 : Nat) (h : RdK ok w 11 (rSt (d + 1) ok w) l v) (hk : ∀ t ∈ l, HdK t.1) (hin : ∀ t ∈ l, ∀ (w1 : World) (v1 : Value), RdK ok w1 11 (rSt d ok w1) t.2 v1 → Pow w1 → Calls Tryz.prog 45 #[v1, .int .i64 ((n0 : Int) + 1)] w1 fun e w' => e = .returned (.bool (t.2.all (stF d (n0 + 1)))) ∧ Below w1.heap.size w1 w') (hp : Pow w) : Calls Tryz.prog 45 #[v, .int .i64 (n0 : Int)] w fun e w' => e = .returned (.bool (l.all (stF (d + 1) n0))) ∧ Below w.heap.size w w' := by
  refine rsts_walk (h.form.elim fun a x => x.elim fun cap y => ⟨a, _, cap, y.1⟩) fun T => ?_
  have hal : Below w.heap.size w (w.alloc (.cells #[.int .i64 (n0 : Int)] T)) := (Below.refl w.heap.size w).alloc (Nat.le_refl _) _
  have hX : Bn (w.alloc (.cells #[.int .i64 (n0 : Int)] T)) w.heap.size [.int .i64 (n0 : Int)] := Bn.new w [.int .i64 (n0 : Int)] T _ rfl
  exact everySt_any (h.stay (kp_st (d + 1)) (ok' := ok) (fun b hb hl => ⟨hb, hal.block b hl⟩)) hk hin (hp.below hal) (by simp) (hX 0 _ rfl).1
theorem rsts_zero : RsK 0 := by
  intro ok w l v n0 h hk hp
  have hl : l = [] := by
    cases l with
    | nil => rfl
    | cons t r => exact Empty.elim t
  subst hl
  exact rsts_in (d := 0) ok w [] v n0 (by
    obtain ⟨a, cap, e, h1, h2, h3⟩ := h
    refine ⟨a, cap, e, h1, h2, ?_⟩
    exact fun i hi => absurd hi (Nat.not_lt_zero i)) (fun t ht => by simp at ht) (fun t ht => by simp at ht) hp
theorem rsts_step {d : Nat} (IH : RsK d) : RsK (d + 1) := by
  intro ok w l v n0 h hk hp
  refine rsts_in ok w l v n0 h (fun t ht => (hk t ht).1) (fun t ht w1 v1 hr hp1 => ?_) hp
  have := IH ok w1 t.2 v1 (n0 + 1) hr (hk t ht).2 hp1
  rw [Int.natCast_add] at this
  exact this
theorem rsts_any : ∀ d, RsK d
  | 0 => rsts_zero
  | d + 1 => rsts_step (rsts_any d)
set_option maxRecDepth 100000 in
set_option maxHeartbeats 8000000 in
theorem formed_walk (s0 : ByteArray) (n pl pc : Int) (p1 : Option Addr) (m p3 : Nat) (p4 : Option Addr) (ni p6 : Nat) (bv bs : Bool) (w : World) (hs0 : s0.size ≤ 140737488351232) (hv : ∀ w1, Below w.heap.size w w1 → Calls Tryz.prog 43 #[.slice p1 m p3, .func (.func 44) #[] #[]] w1 fun e w' => e = .returned (.bool bv) ∧ Below w1.heap.size w1 w') (hs : ∀ w1, Below w.heap.size w w1 → Calls Tryz.prog 45 #[.slice p4 ni p6, .int .i64 1] w1 fun e w' => e = .returned (.bool bs) ∧ Below w1.heap.size w1 w') : Calls Tryz.prog 17 #[.agg #[.string s0, .int .i64 n, .int .i64 pl, .int .i64 pc, .slice p1 m p3, .slice p4 ni p6]] w fun e w' => e = .returned (.bool (plainB (bl s0) && nbB n && bv && bs)) ∧ Below w.heap.size w w' := by
  have hal : Below w.heap.size w (w.alloc (.cells #[.string s0, .int .i64 n, .int .i64 pl, .int .i64 pc, .slice p1 m p3, .slice p4 ni p6] 33)) := (Below.refl w.heap.size w).alloc (Nat.le_refl _) _
  have hX : Bn (w.alloc (.cells #[.string s0, .int .i64 n, .int .i64 pl, .int .i64 pc, .slice p1 m p3, .slice p4 ni p6] 33)) w.heap.size [.string s0, .int .i64 n, .int .i64 pl, .int .i64 pc, .slice p1 m p3, .slice p4 ni p6] := Bn.new w [.string s0, .int .i64 n, .int .i64 pl, .int .i64 pc, .slice p1 m p3, .slice p4 ni p6] 33 _ rfl
  all_goals (
    go_enter Tryz.func17, Tryz.ntmps17
    go_upto_region 1 with fail
    generalize (w.alloc (.cells #[.string s0, .int .i64 n, .int .i64 pl, .int .i64 pc, .slice p1 m p3, .slice p4 ni p6] 33)) = wx at *
    have hB : Below wx.heap.size wx wx := Below.refl _ _
    obtain ⟨x0, _⟩ := hX 0 _ rfl
    obtain ⟨x1, _⟩ := hX 1 _ rfl
    obtain ⟨x2, _⟩ := hX 2 _ rfl
    obtain ⟨x3, _⟩ := hX 3 _ rfl
    obtain ⟨x4, _⟩ := hX 4 _ rfl
    obtain ⟨x5, _⟩ := hX 5 _ rfl
    go_wp2_with (first
      | (go_at_call 41; refine (rnameB _ _ (by assumption)).mono ?_; rintro e w1 ⟨rfl, b1⟩; have hB := Below.nx hB b1; obtain ⟨x1, _⟩ := (hX.on hB) 1 _ rfl; obtain ⟨x4, _⟩ := (hX.on hB) 4 _ rfl; obtain ⟨x5, _⟩ := (hX.on hB) 5 _ rfl)
      | (go_at_call 42; refine (rnum_any _ _).mono ?_; rintro e w1 ⟨rfl, b1⟩; have hB := Below.nx hB b1; obtain ⟨x4, _⟩ := (hX.on hB) 4 _ rfl; obtain ⟨x5, _⟩ := (hX.on hB) 5 _ rfl)
      | (go_at_call 43; refine (hv _ (hal.trans (hB.mono hal.size))).mono ?_; rintro e w1 ⟨rfl, b1⟩; have hB := Below.nx hB b1; obtain ⟨x5, _⟩ := (hX.on hB) 5 _ rfl)
      | (go_at_call 45; refine (hs _ (hal.trans (hB.mono hal.size))).mono ?_; rintro e w1 ⟨rfl, b1⟩; have hB := Below.nx hB b1; skip)
      | fail)
    all_goals (
      go_ret
      exact ⟨by simp [*], hal.trans (hB.mono hal.size)⟩))
def ChK (d : Nat) (c : ChG d) : Prop := c.1.1.length ≤ 140737488351232 ∧ (∀ x ∈ c.2.2.1, x.1.length ≤ 140737488351232) ∧ ∀ t ∈ c.2.2.2, StK d t
theorem formedC_any {ok : Nat → Prop} {w : World} {d : Nat} {c : ChG d} {v : Value} (h : RdC ok w d c v) (hk : ChK d c) (hp : Pow w) : Calls Tryz.prog 17 #[v] w fun e w' => e = .returned (.bool (chF d c)) ∧ Below w.heap.size w w' := by
  obtain ⟨sv, ss, rfl, hv, hs⟩ := h
  obtain ⟨s0, a1, a2, a3⟩ := sV_out c.1.1 hk.1
  have e : chF d c = (plainB (bl s0) && nbB c.2.1 && c.2.2.1.all varF && c.2.2.2.all (stF d 1)) := by rw [a2]; rfl
  rw [a1, e]
  have kv : ∀ w1, Below w.heap.size w w1 → Calls Tryz.prog 43 #[sv, .func (.func 44) #[] #[]] w1 fun e w' => e = .returned (.bool (c.2.2.1.all varF)) ∧ Below w1.heap.size w1 w' := fun w1 b1 => everyVar_any (hv.stay kp_var (ok' := ok) (fun b hb hl => ⟨hb, b1.block b hl⟩)) hk.2.1
  have ks : ∀ w1, Below w.heap.size w w1 → Calls Tryz.prog 45 #[ss, .int .i64 1] w1 fun e w' => e = .returned (.bool (c.2.2.2.all (stF d 1))) ∧ Below w1.heap.size w1 w' := fun w1 b1 => rsts_any d ok w1 c.2.2.2 ss 1 (hs.stay (kp_st d) (ok' := ok) (fun b hb hl => ⟨hb, b1.block b hl⟩)) hk.2.2 (hp.below b1)
  obtain ⟨p1, p3, rfl, _⟩ := hv.form
  obtain ⟨p4, p6, rfl, _⟩ := hs.form
  exact formed_walk s0 _ _ _ p1 _ p3 p4 _ p6 _ _ w a3 kv ks
end Go.Proofs.YtifgbioacknjpaaGreatDoor
