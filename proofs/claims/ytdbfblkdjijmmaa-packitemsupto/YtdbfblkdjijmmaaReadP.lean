/- What pack.Read does. -/
import Derived.Test.YtdbfblkdjijmmaaItems
namespace Go.Proofs.Ytdbfblkdjijmmaa
open Go.RowKit
set_option linter.unusedSimpArgs false
set_option linter.unusedVariables false

theorem Try.infoP : (Try.prog.info? 53).map (fun i => (i.zero, i.size, i.bytes)) = some (some (.agg #[.bool false, .int .i64 0, .string ⟨#[]⟩]), 3, 32) := by kernel_rfl

/-- The error of a reading. -/
def rerr (o : Option (List It)) : Int := if o.isSome then 0 else 2
theorem rerr_none : rerr none = 2 := rfl
theorem rerr_some (l : List It) : rerr (some l) = 0 := rfl

set_option maxHeartbeats 1000000 in
theorem read_any (v : Value) (bs : List Int) (w : World) (h : Rd w v bs) (hb : ∀ x ∈ bs, 0 ≤ x ∧ x ≤ 255) :
    Calls Try.prog 20 #[v] w fun e w' => ∃ u, e = .returned (.tuple #[u, .int .i64 (rerr (readS bs))]) ∧ OwnI w' w.heap.size 53 u ((readS bs).getD []) ∧ Below w.heap.size w w' := by
  obtain ⟨i0, hi, hz0, hz1, hz2⟩ := info_parts Try.infoP
  have h1 := takeNumber_any v bs w h hb
  obtain ⟨k0, k9, kl⟩ := takeN_facts bs
  obtain ⟨⟨n, k, er⟩, hx⟩ : ∃ x, x = takeN bs := ⟨_, rfl⟩
  rw [← hx] at h1 k0 k9 kl
  have HX : Hid ((n, k, er) = takeN bs) := hx
  clear hx
  dsimp only at k0 k9 kl
  by_cases hg : er = 0 ∧ 0 ≤ n ∧ n ≤ 4000
  · obtain ⟨rfl, hn0, hn4⟩ := hg
    have kl := kl rfl
    obtain ⟨b, off, cap, rfl, hc, hm, hcell⟩ := h.lies (by omega)
    obtain ⟨n, rfl⟩ := toNat_ex n (by omega)
    obtain ⟨k, rfl⟩ := toNat_ex k (by omega)
    have hn : n ≤ 4000 := by omega
    have hk1 : 1 ≤ k := by omega
    have hkl : k ≤ bs.length := by omega
    have HR : Hid (readS bs = whole (rdN n (bs.drop k))) := readS_good HX.out hn
    have hm' := hm
    unfold maxLen at hm'
    have HB : Hid (∀ j, ∀ x ∈ bs.drop j, 0 ≤ x ∧ x ≤ 255) := fun j x hx => hb x (List.mem_of_mem_drop hx)
    have HC : Hid (∀ i, i < bs.length → w.cell? ⟨b, off + i, none⟩ = some (.int .u8 (bs.getD i 0))) := hcell
    clear hcell hb HX kl k9 k0
    go_enter Try.func20, Try.ntmps20
    go_wp2_with (first
      | (go_at_call 13; refine h1.mono ?_; rintro e w' ⟨rfl, rfl⟩)
      | (at_make; refine wpList_make_own _ rfl (.const (.int .i64 0)) (.tmp 27) 40 rfl w.heap.size 53 i0 (.agg #[.bool false, .int .i64 0, .string ⟨#[]⟩]) 3 Try.underlying40 hi hz0 hz1 .i64 .i64 _ n rfl rfl rfl ?c2 ?c3 ?c4 ?_))
    case c2 => rw [hz2]; omega
    case c3 => unfold maxLen; omega
    case c4 => omega
    intro w1 hown1 hgrow1
    have bel1 : Below w.heap.size w w1 := (Below.refl _ _).grown hgrow1 (Nat.le_refl _) (fun k hk => by cases hk)
    clear hgrow1
    go_wp2
    go_loopw [5, 7, 30] (fun at_ u i wr => ∃ (j p : Nat) (l : List It), j ≤ n ∧ i = .int .i64 j ∧ at_ = .int .i64 p ∧ p ≤ bs.length ∧ Hid (l.length = j) ∧ OwnI wr w.heap.size 53 u l ∧ Hid (whole (ahead l (rdN (n - j) (bs.drop p))) = readS bs) ∧ Below w.heap.size w wr) (fun _ _ i _ => n - (intOf i).toNat)
    case atStart => exact ⟨0, k, [], by omega, rfl, rfl, hkl, rfl, hown1, by show whole (ahead [] (rdN (n - 0) (bs.drop k))) = readS bs; rw [ahead_nil, Nat.sub_zero]; exact HR.out.symm, bel1⟩
    case round =>
      clear hown1 bel1
      obtain ⟨j, p, l, hj, rfl, rfl, hp, hlen, ho, hinv, hbel⟩ := hrel
      by_cases hlt : j < n
      · obtain ⟨a1, ha1⟩ : ∃ a1 : Option Addr, (if cap = p then some (⟨b, off, none⟩ : Addr) else some ⟨b, off + p, none⟩) = a1 := ⟨_, rfl⟩
        have hrd := (Rd.part rfl HC.out hc hm (show p + (bs.length - p) ≤ bs.length by omega)).below hbel (Nat.le_refl _)
        rw [ha1, List.take_of_length_le (by rw [List.length_drop]; omega)] at hrd
        have hcall := takeItem_any _ _ wr hrd (HB.out p)
        obtain ⟨f0, f1, f2⟩ := takeI_facts (bs.drop p)
        obtain ⟨⟨⟨xt, xn, xs⟩, sz, ok⟩, hx⟩ : ∃ x, x = takeI (bs.drop p) := ⟨_, rfl⟩
        rw [← hx] at hcall f0 f1 f2
        rw [List.length_drop] at f1
        dsimp only at f0 f1 f2
        obtain ⟨d, hd⟩ : ∃ d, n - j = d + 1 := ⟨n - j - 1, by omega⟩
        have hpl : (p : Int) ≤ (bs.length : Int) := by omega
        cases ok with
        | false =>
          have hrn : readS bs = none := by rw [← hinv.out, hd, rdN_not (by rw [← hx])]; rfl
          rw [hrn] at HR
          clear hx hd hrd ho hinv f0 f1 f2
          go_wp2_with (first
            | (go_at_call 30; refine hcall.mono ?_; rintro e w2 ⟨rfl, hb2⟩))
          go_ret2
          exact ⟨_, by rw [hrn]; rfl, by rw [hrn]; exact ownI_nil _ _ _, (hbel.trans (hb2.mono hbel.size)).alloc (Nat.le_trans hbel.size hb2.size) _⟩
        | true =>
          have f2 := f2 rfl
          obtain ⟨m, rfl⟩ := toNat_ex sz (by omega)
          have hpm : p + m ≤ bs.length := by omega
          have HI : Hid (whole (ahead (l ++ [(xt, xn, xs)]) (rdN (n - (j + 1)) (bs.drop (p + m)))) = readS bs) := by
            have e := hinv.out
            rw [hd, rdN_ok (by rw [← hx]), ← hx, List.drop_drop] at e
            rw [show n - (j + 1) = d by omega]
            exact e
          clear hx hd hrd hinv f0 f1 f2
          go_wp2_with (first
            | (go_at_call 30; refine hcall.mono ?_; rintro e w2 ⟨rfl, hb2⟩; have hsz2 := hb2.size; have ho2 := ((ho.below hb2 (Nat.le_refl _)).alloc (.cells #[.bool xt, .int .i64 xn, .string xs] 53)).alloc (.cells #[.bool xt, .int .i64 xn, .string xs] 53))
            | (at_builtin; refine wpList_append_both _ rfl (.tmp 42) (.tmp 44) 40 40 rfl w.heap.size 53 i0 (.agg #[.bool false, .int .i64 0, .string ⟨#[]⟩]) 3 32 Try.underlying40 hi hz0 hz1 hz2 rfl u7 l.length _ rfl ho2 _ 1 (cel (xt, xn, xs)) rfl (src_item Try.underlying40 (w2.alloc _) (xt, xn, xs) (by simp)) 1 (.inr (by have := hlen.out; omega)) (Nat.le_refl _) (by have := hlen.out; unfold maxLen; omega) (by have := hbel.size; simp; omega) ?_; intro v3 w3 ho3 hg3 _))
          have bel3 : Below w.heap.size w w3 := (((hbel.trans (hb2.mono hbel.size)).alloc (Nat.le_trans hbel.size hsz2) _).alloc (by have := hbel.size; simp; omega) _).grown hg3 (by have := hbel.size; simp; omega) (fun k hk => (ho.lt k hk).1)
          have ho4 := ownI_snoc ho3
          clear ho3 hg3 ho2 hcall ho
          go_wp2
          go_roundw
          case rel => exact ⟨j + 1, p + m, l ++ [(xt, xn, xs)], hlt, by go_num, by go_num, hpm, by show (l ++ [(xt, xn, xs)]).length = j + 1; rw [List.length_append, hlen.out]; rfl, ho4, HI, bel3⟩
          case measure => simp [intOf]; omega
      · have hjn : n - j = 0 := by omega
        have hinv2 := hinv.out
        rw [hjn, rdN_zero] at hinv2
        by_cases hpe : p = bs.length
        · have hrs : readS bs = some l := by rw [← hinv2, hpe, List.drop_length]; rfl
          subst hpe
          clear hinv hinv2
          go_wp2
          go_ret2
          exact ⟨_, by rw [hrs]; rfl, by rw [hrs]; exact ho, hbel⟩
        · have hrs : readS bs = none := by
            rw [← hinv2]
            cases hd : bs.drop p with
            | nil => have := congrArg List.length hd; rw [List.length_drop] at this; simp at this; omega
            | cons x y => rfl
          have hne : ¬ (p : Int) = (bs.length : Int) := by omega
          clear hinv hinv2
          go_wp2
          go_ret2
          exact ⟨_, by rw [hrs]; rfl, by rw [hrs]; exact ownI_nil _ _ _, hbel⟩
  · have HR := readS_bad HX.out hg
    rw [HR]
    by_cases he : er = 0
    · subst he
      by_cases hn0 : n < 0
      · go_enter Try.func20, Try.ntmps20
        go_wp2_with (first
          | (go_at_call 13; refine h1.mono ?_; rintro e w' ⟨rfl, rfl⟩))
        go_ret2
        exact ⟨_, rfl, ownI_nil _ _ _, Below.refl _ _⟩
      · have hn4 : 4000 < n := by omega
        go_enter Try.func20, Try.ntmps20
        go_wp2_with (first
          | (go_at_call 13; refine h1.mono ?_; rintro e w' ⟨rfl, rfl⟩))
        go_ret2
        exact ⟨_, rfl, ownI_nil _ _ _, Below.refl _ _⟩
    · have he' : (er != 0) = true := by simpa using he
      clear HX
      go_enter Try.func20, Try.ntmps20
      go_wp2_with (first
        | (go_at_call 13; refine h1.mono ?_; rintro e w' ⟨rfl, rfl⟩))
      go_ret2
      exact ⟨_, rfl, ownI_nil _ _ _, Below.refl _ _⟩
end Go.Proofs.Ytdbfblkdjijmmaa
