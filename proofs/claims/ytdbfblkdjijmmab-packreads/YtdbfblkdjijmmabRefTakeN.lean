/- What the document's TakeNumber does. -/
import Derived.Test.YtdbfblkdjijmmabTakeN
import Derived.Test.YtdbfblkdjijmmabRefNum
import Derived.Deep.RegionHeld
import Derived.Deep.DrawnRows
namespace Go.Proofs.Ytdbfblkdjijmmab
open Go.RowKit
set_option linter.unusedSimpArgs false
set_option linter.unusedVariables false
attribute [local go_sem ↓] Go.wp_at_zero Go.wp_at_succ

set_option maxHeartbeats 1000000 in
theorem refTakeNumber_any (v : Value) (bs : List Int) (w : World) (h : Rd w v bs) (hb : ∀ x ∈ bs, 0 ≤ x ∧ x ≤ 255) :
    Calls Try.prog 13 #[v] w fun e w' => e = .returned (tup (takeN bs)) ∧ Below w.heap.size w w' := by
  cases bs with
  | nil =>
    obtain ⟨a, cap, rfl, hc, hm, hnone, hcell⟩ := h
    simp only [List.length_nil, takeN_nil]
    go_enter Try.func13, Try.ntmps13
    go_wp2
    go_ret3
    exact ⟨rfl, Below.refl _ _⟩
  | cons c r =>
    obtain ⟨b, off, cap, rfl, hc, hm, hcell⟩ := h.lies (by simp)
    have hc0 : w.cell? ⟨b, off, none⟩ = some (.int .u8 c) := by simpa using hcell 0 (by simp)
    have hcb := hb c (by simp)
    have hz : ((r.length : Int) + 1 == 0) = false := by simp; omega
    have hcap := hc
    simp only [List.length_cons] at hc ⊢
    have hm' := hm
    unfold maxLen at hm
    by_cases h8 : 8 < c
    · rw [takeN_big h8]
      clear hcell hb h hm' hcap
      go_enter Try.func13, Try.ntmps13
      go_wp2
      go_ret3
      exact ⟨rfl, Below.refl _ _⟩
    · by_cases hs : (r.length : Int) < c
      · rw [takeN_short h8 hs]
        clear hcell hb h hm' hcap
        have hs' : (r.length : Int) + 1 < 1 + c := by omega
        go_enter Try.func13, Try.ntmps13
        go_wp2
        go_ret3
        exact ⟨rfl, Below.refl _ _⟩
      · obtain ⟨m, rfl⟩ : ∃ m : Nat, c = (m : Int) := ⟨c.toNat, by omega⟩
        have hm8 : m ≤ 8 := by omega
        have hmr : m ≤ r.length := by omega
        have hs' : ¬ (r.length : Int) + 1 < 1 + (m : Int) := by omega
        have hs2 : 1 + (m : Int) ≤ (cap : Int) := by omega
        have HR : Hid (Rd w (.slice (some ⟨b, off, none⟩) (1 + m) cap) ((m : Int) :: r.take m)) := by
          refine Rd.of_lies (by simp; omega) (by omega) hm' (fun i hi => ?_)
          rw [hcell i (by simp; omega)]
          cases i with
          | zero => simp
          | succ j => simp [List.getD, show j < m by omega]
        have HX : Hid (∀ k, k < m → ∃ x, w.cell? ⟨b, off + (1 + k), none⟩ = some (.int .u8 x) ∧ 0 ≤ x ∧ x ≤ 255 ∧ x = (r.take m).getD k 0) := by
          intro k hk
          have h1 := hcell (1 + k) (by simp; omega)
          have e : ((m : Int) :: r).getD (1 + k) 0 = (r.take m).getD k 0 := by rw [Nat.add_comm]; simp [List.getD, hk]
          rw [e] at h1
          refine ⟨_, h1, ?_, ?_, rfl⟩
          all_goals
            rw [getD_get _ _ (by rw [List.length_take]; omega)]
            have := hb _ (List.mem_cons_of_mem _ (List.mem_of_mem_take (List.getElem_mem (l := r.take m) (n := k) (by rw [List.length_take]; omega))))
            omega
        have HB : Hid (∀ x ∈ r.take m, 0 ≤ x ∧ x ≤ 255) := fun x hx => hb x (List.mem_cons_of_mem _ (List.mem_of_mem_take hx))
        have hlen : (r.take m).length = m := by rw [List.length_take]; omega
        obtain ⟨ds, hds⟩ : ∃ ds, ds = r.take m := ⟨_, rfl⟩
        have HT : Hid (takeN ((m : Int) :: r) = if wd (sgn ds) = m then (sgn ds, 1 + (m : Int), 0) else (0, 0, 2)) := by
          show takeN ((m : Int) :: r) = _
          rw [hds]
          split
          · exact takeN_ok hm8 hmr ‹_›
          · exact takeN_not hm8 hmr ‹_›
        rw [← hds] at HR HX HB hlen
        clear hcell hb h hm' hcap hds
        obtain ⟨n1, hn1, hn1a, hn1b, hn1c⟩ : ∃ n1, n1 = sgnF (sgn0 ds) (ds.take 1) ∧ -128 ≤ n1 ∧ n1 ≤ 127 ∧ ∀ x, 0 < m → x = ds.getD 0 0 → IntKind.i8.wrap x = n1 := by
          refine ⟨_, rfl, ?_⟩
          cases ds with
          | nil => simp [sgnF, sgn0]; intro; simp at hlen; omega
          | cons d t =>
            have := HB.out d (by simp)
            simp only [sgnF, sgn0, List.take_succ_cons, List.take_zero, List.foldl_cons, List.foldl_nil]
            by_cases h128 : 128 ≤ d
            · rw [if_pos h128]
              refine ⟨by omega, by omega, fun x _ hx => ?_⟩
              rw [hx]
              simp [IntKind.wrap, IntKind.bits, IntKind.signed, List.getD]
              omega
            · rw [if_neg h128]
              refine ⟨by omega, by omega, fun x _ hx => ?_⟩
              rw [hx]
              simp [IntKind.wrap, IntKind.bits, IntKind.signed, List.getD]
              omega
        have H1 : Hid (n1 = sgnF (sgn0 ds) (ds.take 1)) := hn1
        clear hn1
        by_cases hm0 : m = 0
        · subst hm0
          obtain rfl : ds = [] := List.length_eq_zero_iff.1 hlen
          have hrd := HR.out
          rw [HT.out]
          simp only [sgn, sgnF, sgn0, List.foldl_nil, wd_zero, if_true]
          clear HX H1 hn1a hn1b hn1c HB HT HR n1
          go_enter Try.func13, Try.ntmps13
          go_wp2
          refine wp_loop_rounds 1 ?_
          rw [rounds_succ]
          go_wp2
          have hnb : nb 0 = [0] := rfl
          have hrdd : Rd w.drew (.slice (some ⟨b, off, none⟩) 1 cap) [0] := hrd
          have hsl : (1 : Int) ≤ (cap : Int) := by omega
          have hwr : IntKind.i64.wrap (1 + 0) = 1 := rfl
          have hwr' : IntKind.i64.wrap 1 = 1 := rfl
          have hsr : ∀ w', (Instr.slice 22 (.slice (some ⟨b, off, none⟩) (r.length + 1) cap) none (some (.int .i64 1)) none).run Try.prog w' = .ok (.slice (some ⟨b, off, none⟩) 1 cap) w' := fun w' => slice_to b off (r.length + 1) cap 1 (by omega) w'
          go_region_held (fun w' => Rd w' (.slice (some ⟨b, off, none⟩) 1 cap) [0] ∧ (convert 22 9 (.slice (some ⟨b, off, none⟩) 1 cap)).run Try.prog w' = .ok (.string (strOfNums [0])) w')
            (first
              | exact ⟨hrd, rd_conv hrd⟩
              | exact ⟨hrdd, rd_conv hrdd⟩
              | exact ⟨hr1, rd_conv hr1⟩)
            (first
              | (go_at_call 21; refine (refNumber_any 0 _).mono ?_; rintro e w1 ⟨v1, rfl, ho1, hb1⟩; rw [hnb] at ho1; have hr1 := hrdd.below hb1 (Nat.le_refl _); have c1 := rd_conv ho1.rd))
          all_goals go_wp2
          all_goals
            go_ret3
            exact ⟨rfl, (Below.refl _ _).drew.trans hb1⟩
        · obtain ⟨x0, hx0, x0a, x0b, x0e⟩ := HX.out 0 (by omega)
          have hp : (0 : Int) < (m : Int) := by omega
          have hix : (1 : Int) < (r.length : Int) + 1 := by omega
          have hi8 := hn1c x0 (by omega) x0e
          clear x0e hn1c
          obtain ⟨n, hn⟩ : ∃ n, n = sgn ds := ⟨_, rfl⟩
          rw [HT.out, ← hn]
          have HD : Hid (n = sgn ds) := hn
          clear hn HT
          by_cases hw : wd n = m
          · have hnb : nb n = (m : Int) :: ds := by
              have hbt := bts_sgn (sgn0 ds) ds HB.out ds.length (Nat.le_refl _)
              rw [List.take_of_length_le (Nat.le_refl _), hlen] at hbt
              rw [nb, hw, HD.out]
              exact congrArg _ hbt
            rw [if_pos hw]
            clear hw
            go_enter Try.func13, Try.ntmps13
            go_wp2
            go_loop [6, 7] (fun n i => ∃ k : Nat, 1 ≤ k ∧ k ≤ m ∧ i = .int .i64 k ∧ n = .int .i64 (sgnF (sgn0 ds) (ds.take k))) (fun _ i => m - (intOf i).toNat)
            case atStart => exact ⟨1, by omega, by omega, rfl, by rw [← H1.out]⟩
            case round =>
              obtain ⟨k, hk1, hkm, rfl, rfl⟩ := hrel
              by_cases hlt : k < m
              · obtain ⟨x, hck, hxa, hxb, hx⟩ := HX.out k hlt
                obtain ⟨N, hN⟩ : ∃ N, N = sgnF (sgn0 ds) (ds.take k) := ⟨_, rfl⟩
                obtain ⟨HN, hor, hb1, hb2, hb3, hb4⟩ := sgn_round ds HB.out k (by omega) (by omega) x hx N hN
                have hix2 : 1 + (k : Int) < (r.length : Int) + 1 := by omega
                rw [← hN]
                clear hx hN
                go_wp2
                go_round
                case rel => exact ⟨k + 1, by omega, hlt, by go_num, by rw [HN.out]⟩
                case measure => simp [intOf]; omega
              · have he : sgnF (sgn0 ds) (ds.take k) = n := by rw [HD.out, List.take_of_length_le (by omega)]; rfl
                rw [he]
                clear he
                have hwr : IntKind.i64.wrap (1 + (m : Int)) = 1 + (m : Int) := by rw [IntKind.wrap_i64]; omega
                have hsr : ∀ w', (Instr.slice 22 (.slice (some ⟨b, off, none⟩) (r.length + 1) cap) none (some (.int .i64 (1 + (m : Int)))) none).run Try.prog w' = .ok (.slice (some ⟨b, off, none⟩) (1 + m) cap) w' := fun w' => slice_to b off (r.length + 1) cap (1 + m) (by omega) w'
                have hrd := HR.out
                have hlb : ¬ (k : Int) < (m : Int) := by omega
                have hrdd : Rd w.drew (.slice (some ⟨b, off, none⟩) (1 + m) cap) ((m : Int) :: ds) := hrd
                go_wp2
                go_region_held (fun w' => Rd w' (.slice (some ⟨b, off, none⟩) (1 + m) cap) ((m : Int) :: ds) ∧ (convert 22 9 (.slice (some ⟨b, off, none⟩) (1 + m) cap)).run Try.prog w' = .ok (.string (strOfNums ((m : Int) :: ds))) w')
                  (first
                    | exact ⟨hrd, rd_conv hrd⟩
                    | exact ⟨hrdd, rd_conv hrdd⟩
                    | exact ⟨hr1, rd_conv hr1⟩)
                  (first
                    | (go_at_call 21; refine (refNumber_any n _).mono ?_; rintro e w1 ⟨v1, rfl, ho1, hb1⟩; rw [hnb] at ho1; have hr1 := hrdd.below hb1 (Nat.le_refl _); have c1 := rd_conv ho1.rd))
                all_goals go_wp2
                all_goals
                  go_ret3
                  exact ⟨rfl, (Below.refl _ _).drew.trans hb1⟩
          · have hsz : (strOfNums (nb n)).size ≠ (strOfNums ((m : Int) :: ds)).size := by rw [strOfNums_size, strOfNums_size, nb_length, List.length_cons, hlen]; omega
            have hneq : ((strOfNums (nb n)).toList == (strOfNums ((m : Int) :: ds)).toList) = false := toList_ne hsz
            clear hsz
            rw [if_neg hw]
            clear hw
            go_enter Try.func13, Try.ntmps13
            go_wp2
            go_loop [6, 7] (fun n i => ∃ k : Nat, 1 ≤ k ∧ k ≤ m ∧ i = .int .i64 k ∧ n = .int .i64 (sgnF (sgn0 ds) (ds.take k))) (fun _ i => m - (intOf i).toNat)
            case atStart => exact ⟨1, by omega, by omega, rfl, by rw [← H1.out]⟩
            case round =>
              obtain ⟨k, hk1, hkm, rfl, rfl⟩ := hrel
              by_cases hlt : k < m
              · obtain ⟨x, hck, hxa, hxb, hx⟩ := HX.out k hlt
                obtain ⟨N, hN⟩ : ∃ N, N = sgnF (sgn0 ds) (ds.take k) := ⟨_, rfl⟩
                obtain ⟨HN, hor, hb1, hb2, hb3, hb4⟩ := sgn_round ds HB.out k (by omega) (by omega) x hx N hN
                have hix2 : 1 + (k : Int) < (r.length : Int) + 1 := by omega
                rw [← hN]
                clear hx hN
                go_wp2
                go_round
                case rel => exact ⟨k + 1, by omega, hlt, by go_num, by rw [HN.out]⟩
                case measure => simp [intOf]; omega
              · have he : sgnF (sgn0 ds) (ds.take k) = n := by rw [HD.out, List.take_of_length_le (by omega)]; rfl
                rw [he]
                clear he
                have hwr : IntKind.i64.wrap (1 + (m : Int)) = 1 + (m : Int) := by rw [IntKind.wrap_i64]; omega
                have hsr : ∀ w', (Instr.slice 22 (.slice (some ⟨b, off, none⟩) (r.length + 1) cap) none (some (.int .i64 (1 + (m : Int)))) none).run Try.prog w' = .ok (.slice (some ⟨b, off, none⟩) (1 + m) cap) w' := fun w' => slice_to b off (r.length + 1) cap (1 + m) (by omega) w'
                have hrd := HR.out
                have hlb : ¬ (k : Int) < (m : Int) := by omega
                have hrdd : Rd w.drew (.slice (some ⟨b, off, none⟩) (1 + m) cap) ((m : Int) :: ds) := hrd
                go_wp2
                go_region_held (fun w' => Rd w' (.slice (some ⟨b, off, none⟩) (1 + m) cap) ((m : Int) :: ds) ∧ (convert 22 9 (.slice (some ⟨b, off, none⟩) (1 + m) cap)).run Try.prog w' = .ok (.string (strOfNums ((m : Int) :: ds))) w')
                  (first
                    | exact ⟨hrd, rd_conv hrd⟩
                    | exact ⟨hrdd, rd_conv hrdd⟩
                    | exact ⟨hr1, rd_conv hr1⟩)
                  (first
                    | (go_at_call 21; refine (refNumber_any n _).mono ?_; rintro e w1 ⟨v1, rfl, ho1, hb1⟩; have hr1 := hrdd.below hb1 (Nat.le_refl _); have c1 := rd_conv ho1.rd))
                all_goals go_wp2
                all_goals
                  go_ret3
                  exact ⟨rfl, (Below.refl _ _).drew.trans hb1⟩

end Go.Proofs.Ytdbfblkdjijmmab
