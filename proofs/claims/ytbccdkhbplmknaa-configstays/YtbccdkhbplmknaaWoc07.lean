import Derived.Test.YtbccdkhbplmknaaWoc04
import Derived.Test.YtbccdkhbplmknaaWoc01
import Derived.Test.YtbccdkhbplmknaaWoc03
import Derived.Deep.CutBlock
import Derived.Test.YtbccdkhbplmknaaWoc06
import Derived.Test.YtbccdkhbplmknaaWoc02
import Derived.Test.YtbccdkhbplmknaaRows
import Derived.Deep.Slices
import Derived.ProofKit
import Derived.OpenShut
import Derived.ShutString
import Derived.ChangeOld
import Derived.SizedLaws
import Derived.Below
import Derived.Lib.ParseIntBCases
import Derived.Lib.AtoiAll
import Derived.BigQuiet
import Derived.Deep.QuietTactic
import Derived.BigRegion
import Derived.Shelf.Unicode.DecodeSlow
import Derived.Deep.RegionHeldLaw

/- What the program's Move answers. -/
namespace Go.Proofs.Ytbccdkhbplmknaa
open Go.RowKit Go.Lib Go.Shelf
set_option linter.unusedSimpArgs false
set_option linter.unusedVariables false
attribute [local go_sem ↓] Go.wp_at_zero Go.wp_at_succ

/-- The numbers xs are in the set, or not. -/
def updL (s : Nat → Bool) (xs : List Int) (b : Bool) : Nat → Bool := fun i => if xs.contains (i : Int) then b else s i
theorem updL_nil (s : Nat → Bool) (b : Bool) : updL s [] b = s := by funext i; simp [updL]
theorem updL_snoc (s : Nat → Bool) (xs : List Int) (b : Bool) (k : Nat) : updL s (xs ++ [(k : Int)]) b = upd (updL s xs b) k b := by
  funext i
  unfold updL upd
  by_cases e : i = k
  · subst e
    rw [if_pos rfl, if_pos (by simp)]
  · rw [if_neg e]
    have h2 : ((i : Int) == (k : Int)) = false := beq_eq_false_iff_ne.2 (by omega)
    have h3 : (xs ++ [(k : Int)]).contains (i : Int) = xs.contains (i : Int) := by
      simp [List.contains_eq_any_beq, List.any_append, h2]
      intro h; omega
    rw [h3]
theorem numS_mem {s : Nat → Bool} {n : Nat} {x : Int} (h : x ∈ numS s n) : ∃ k : Nat, x = k ∧ k < n := by
  unfold numS at h
  simp only [List.mem_map, List.mem_filter, List.mem_range] at h
  obtain ⟨k, ⟨h1, _⟩, rfl⟩ := h
  exact ⟨k, rfl, h1⟩
theorem lvB_mem {l : List Nd} {xs : List Int} {o x : Int} (h : x ∈ lvB l xs o) : ∃ k : Nat, x = k ∧ k < 40 := by
  unfold lvB at h
  split at h
  · exact numS_mem (List.mem_reverse.1 h)
  · simp at h
theorem etB_mem {l : List Nd} {o i x : Int} (h : x ∈ etB l o i) : ∃ k : Nat, x = k ∧ k < 40 := by
  unfold etB at h
  split at h
  · simp at h
  · exact numS_mem h
theorem lvB_len (l : List Nd) (xs : List Int) (o : Int) : (lvB l xs o).length ≤ 40 := by
  unfold lvB
  split
  · rw [List.length_reverse]; exact numS_len _ 40
  · simp
theorem etB_len (l : List Nd) (o i : Int) : (etB l o i).length ≤ 40 := by
  unfold etB
  split
  · simp
  · exact numS_len _ 40
def mvS (l : List Nd) (xs : List Int) (f t : Int) : Nat → Bool := updL (updL (stO l.length xs) (lvB l xs (mtB l f t)) false) (etB l (mtB l f t) t) true
/-- What is left, what is entered, what is active then. -/
def mvB (l : List Nd) (xs : List Int) (f t : Int) : List Int × List Int × List Int :=
  if fmB l && nmB l.length f && nmB l.length t then (lvB l xs (mtB l f t), etB l (mtB l f t) t, numS (mvS l xs f t) 40) else ([], [], [])
theorem OwnK.rdz {w : World} {base : Nat} {v : Value} {l : List Int} (h : OwnK w base 3 1 rInt v l) : RdZs (fun b => base ≤ b) w l v := h.rd kp_int
set_option maxRecDepth 100000 in
set_option maxHeartbeats 8000000 in
theorem move_any {ok ok' : Nat → Prop} {w : World} {l : List Nd} {xs : List Int} {v u : Value} (h : RdNd ok w l v) (hx : RdZs ok' w xs u) (f t : Int) :
    Calls Try.prog 22 #[v, u, .int .i64 f, .int .i64 t] w fun e w' => ∃ a1 n1 c1 a2 n2 c2 a3 n3 c3, e = .returned (.tuple #[.slice a1 n1 c1, .slice a2 n2 c2, .slice a3 n3 c3]) ∧
      RdZs (fun b => w.heap.size ≤ b) w' (mvB l xs f t).1 (.slice a1 n1 c1) ∧ RdZs (fun b => w.heap.size ≤ b) w' (mvB l xs f t).2.1 (.slice a2 n2 c2) ∧ RdZs (fun b => w.heap.size ≤ b) w' (mvB l xs f t).2.2 (.slice a3 n3 c3) ∧ Below w.heap.size w w' := by
  obtain ⟨a, cap, rfl, hlc, hcm⟩ := h.form
  have hfm := tformed_any h
  obtain ⟨xa, xc, rfl, _, _⟩ := hx.form
  unfold maxLen at hcm
  have his := fun i w1 => isState_any (w := w1) (a := a) (n := l.length) (cap := cap) i hlc (by unfold maxLen; omega)
  unfold mvB
  cases hf : fmB l with
  | false =>
    rw [hf] at hfm
    rw [if_neg (by simp)]
    go_enter Try.func22, Try.ntmps22
    go_wp2_with (first | (go_at_call 14; refine hfm.mono ?_; rintro e w1 ⟨rfl, b1⟩) | fail)
    refine bodyPost_ret (results_tmp3 rfl _ _ _) rfl ?_
    exact ⟨_, _, _, _, _, _, _, _, _, rfl, rdK_none _ _ _ _, rdK_none _ _ _ _, rdK_none _ _ _ _, b1⟩
  | true =>
    have h40 := fm_40 hf
    rw [hf] at hfm
    cases h1 : nmB l.length f with
    | false =>
      rw [if_neg (by simp)]
      have hi := his f
      rw [h1] at hi
      go_enter Try.func22, Try.ntmps22
      go_wp2_with (first | (go_at_call 14; refine hfm.mono ?_; rintro e w1 ⟨rfl, b1⟩) | (go_at_call 40; refine (hi _).mono ?_; rintro e w2 ⟨rfl, rfl⟩) | fail)
      refine bodyPost_ret (results_tmp3 rfl _ _ _) rfl ?_
      exact ⟨_, _, _, _, _, _, _, _, _, rfl, rdK_none _ _ _ _, rdK_none _ _ _ _, rdK_none _ _ _ _, b1⟩
    | true =>
      cases h2 : nmB l.length t with
      | false =>
        rw [if_neg (by simp)]
        go_enter Try.func22, Try.ntmps22
        go_wp2_with (first | (go_at_call 14; refine hfm.mono ?_; rintro e w1 ⟨rfl, b1⟩) | (go_at_call 40; refine (his _ _).mono ?_; rintro e w2 ⟨rfl, rfl⟩) | fail)
        refine bodyPost_ret (results_tmp3 rfl _ _ _) rfl ?_
        exact ⟨_, _, _, _, _, _, _, _, _, rfl, rdK_none _ _ _ _, rdK_none _ _ _ _, rdK_none _ _ _ _, b1⟩
      | true =>
        rw [if_pos (by simp)]
        have hme := fun w1 (b1 : Below w.heap.size w w1) => meet_any (h.on kp_nd b1) f t
        have hle := fun o w1 (b1 : Below w.heap.size w w1) => leave_any (h.on kp_nd b1) (RdK.on kp_int hx b1) o
        have hen := fun o w1 (b1 : Below w.heap.size w w1) => enter_any (h.on kp_nd b1) o t
        have hso := fun w1 (b1 : Below w.heap.size w w1) => setOf_any (h.on kp_nd b1) (RdK.on kp_int hx b1) h40
        have HMV := hidOf (show mvS l xs f t = updL (updL (stO l.length xs) (lvB l xs (mtB l f t)) false) (etB l (mtB l f t) t) true from rfl)
        have HL1 := hidOf (fun x (hx : x ∈ lvB l xs (mtB l f t)) => lvB_mem hx)
        have HE1 := hidOf (fun x (hx : x ∈ etB l (mtB l f t) t) => etB_mem hx)
        have HL2 := lvB_len l xs (mtB l f t)
        have HE2 := etB_len l (mtB l f t) t
        obtain ⟨m, hm⟩ : ∃ m, mtB l f t = m := ⟨_, rfl⟩
        simp only [hm] at hme HMV HL1 HE1 HL2 HE2 ⊢
        clear hm
        obtain ⟨LV, hLV⟩ : ∃ LV, lvB l xs m = LV := ⟨_, rfl⟩
        obtain ⟨ET, hET⟩ : ∃ ET, etB l m t = ET := ⟨_, rfl⟩
        have hle := hle m
        have hen := hen m
        simp only [hLV] at hle HMV HL1 HL2 ⊢
        simp only [hET] at hen HMV HE1 HE2 ⊢
        clear hLV hET
        obtain ⟨n, hn⟩ : ∃ n, l.length = n := ⟨_, rfl⟩
        simp only [hn] at hlc h40 his hfm h1 h2 hme hle hen hso HMV
        rw [hn]
        clear hn h hx hf
        obtain ⟨s0, hs0⟩ : ∃ s0, stO n xs = s0 := ⟨_, rfl⟩
        rw [hs0] at HMV
        simp only [hs0] at hso
        clear hs0
        go_enter Try.func22, Try.ntmps22
        go_upto_region 6 with (first
          | (go_at_call 14; refine hfm.mono ?_; rintro e w1 ⟨rfl, b1⟩)
          | (go_at_call 40; refine (his _ _).mono ?_; rintro e w2 ⟨rfl, rfl⟩)
          | (go_at_call 18; refine (hme _ b1).mono ?_; rintro e w3 ⟨rfl, b3⟩; have hb3 := b1.trans (b3.mono b1.size))
          | (go_at_call 41; refine (hle _ hb3).mono ?_; rintro e w4 ⟨la, ln, lc, rfl, hO4, b4⟩; have hb4 := hb3.trans (b4.mono hb3.size))
          | (go_at_call 42; refine (hen _ hb4).mono ?_; rintro e w5 ⟨ea, en, ec, rfl, hO5, b5⟩; have hb5 := hb4.trans (b5.mono hb4.size))
          | fail)
        refine wp_region_lit ?_
        go_wp2_with (first
          | (go_at_call 43; refine (hso _ hb5).mono ?_; rintro e w6 ⟨rfl, b6⟩)
          | (refine wpList_store_row rfl 93 _ _ rfl w6.heap.size (bV s0).toArray rfl rfl 93 _ (heap_alloc_last w6 _) (by rw [bV_size]; exact Try.infoCfs) (by rw [bV_size]; rfl) (bV_one _) ?_; rw [World.setRow_alloc_new])
          | fail)
        have hb6 := hb5.trans (b6.mono hb5.size)
        have hal : Below w6.heap.size w6 (w6.alloc (.cells (bV s0).toArray 93)) := (Below.refl _ _).alloc (Nat.le_refl _) _
        have hA7 : Arr (w6.alloc (.cells (bV s0).toArray 93)) w6.heap.size s0 := Arr.new w6 _ _ rfl
        have hb7 := hb6.trans (hal.mono hb6.size)
        have hw6 : w.heap.size ≤ w6.heap.size := hb6.size
        obtain ⟨la', lc', he1, hlc1, hlm1⟩ := hO4.form
        obtain ⟨ea', ec', he2, hec1, hem1⟩ := hO5.form
        simp only [Value.slice.injEq] at he1 he2
        obtain ⟨rfl, rfl, rfl⟩ := he1
        obtain ⟨rfl, rfl, rfl⟩ := he2
        unfold maxLen at hlm1 hem1
        have hR4 : RdZs (fun b => w.heap.size ≤ b ∧ b < w6.heap.size) (w6.alloc (.cells (bV s0).toArray 93)) LV (.slice la LV.length lc) := hO4.rdz.stay kp_int (fun b hb hl => ⟨⟨Nat.le_trans hb3.size hb, Nat.lt_of_lt_of_le hl (Nat.le_trans b5.size b6.size)⟩, (hal.block b (Nat.lt_of_lt_of_le hl (Nat.le_trans b5.size b6.size))).trans ((b6.block b (Nat.lt_of_lt_of_le hl b5.size)).trans (b5.block b hl))⟩)
        have hR5 : RdZs (fun b => w.heap.size ≤ b ∧ b < w6.heap.size) (w6.alloc (.cells (bV s0).toArray 93)) ET (.slice ea ET.length ec) := hO5.rdz.stay kp_int (fun b hb hl => ⟨⟨Nat.le_trans hb4.size hb, Nat.lt_of_lt_of_le hl b6.size⟩, (hal.block b (Nat.lt_of_lt_of_le hl b6.size)).trans (b6.block b hl)⟩)
        generalize w6.alloc (.cells (bV s0).toArray 93) = w7 at *
        obtain ⟨Y, hY⟩ : ∃ Y, w6.heap.size = Y := ⟨_, rfl⟩
        rw [hY] at hA7 hw6 hR4 hR5 ⊢
        clear hY hso hen hle hme his hfm hO4 hO5 hb5 hb6 hb4 hb3 b1 b3 b4 b5 b6 hal
        obtain ⟨p, hp⟩ : ∃ p, LV.length = p := ⟨_, rfl⟩
        obtain ⟨q, hq⟩ : ∃ q, ET.length = q := ⟨_, rfl⟩
        rw [hp] at hlc1 HL2 hR4 ⊢
        rw [hq] at hec1 HE2 hR5 ⊢
        have HP := hidOf hp
        have HQ := hidOf hq
        clear hp hq
        go_loopw [49] (fun ix wr => ∃ (j : Nat), j ≤ p ∧ ix = .int .i64 (j : Int) ∧ Arr wr Y (updL s0 (LV.take j) false) ∧ Below w.heap.size w wr ∧ RdZs (fun b => w.heap.size ≤ b ∧ b < Y) wr LV (.slice la p lc) ∧ RdZs (fun b => w.heap.size ≤ b ∧ b < Y) wr ET (.slice ea q ec)) (fun ix _ => p - (RowKit.intOf ix).toNat)
        case atStart => exact ⟨0, Nat.zero_le _, rfl, by rw [List.take_zero, updL_nil]; exact hA7, hb7, hR4, hR5⟩
        case round =>
          obtain ⟨j, hj, rfl, hA, hb, hrl, hre⟩ := hrel
          by_cases hlt : j < p
          · have hjl : j < LV.length := by rw [HP.out]; exact hlt
            have i1 : (j : Int) < (p : Int) := by omega
            have i2 : (0 : Int) ≤ (j : Int) := by omega
            obtain ⟨b, off, hb0, hbl, c0⟩ := zs_at hrl j hjl
            obtain ⟨k, hk, hk4⟩ := HL1.out _ (List.getElem_mem hjl)
            have HT : Hid (LV.take (j + 1) = LV.take j ++ [(k : Int)]) := by rw [← hk]; exact List.take_succ_eq_append_getElem hjl
            rw [hk] at c0
            subst hb0
            have hset : Arr (wr.setCell ⟨Y, k, none⟩ (.bool false)) Y (updL s0 (LV.take (j + 1)) false) := by rw [HT.out, updL_snoc]; exact hA.set k hk4 false
            have hbw : Below w.heap.size w (wr.setCell ⟨Y, k, none⟩ (.bool false)) := hb.setCell (p := ⟨Y, k, none⟩) hw6 _
            have hrl2 := hrl.stay kp_int (ok' := fun b => w.heap.size ≤ b ∧ b < Y) (w' := wr.setCell ⟨Y, k, none⟩ (.bool false)) (fun b hb _ => ⟨hb, Below.heap_setCell _ _ _ _ (fun e => by have e' : b = Y := e; omega)⟩)
            have hre2 := hre.stay kp_int (ok' := fun b => w.heap.size ≤ b ∧ b < Y) (w' := wr.setCell ⟨Y, k, none⟩ (.bool false)) (fun b hb _ => ⟨hb, Below.heap_setCell _ _ _ _ (fun e => by have e' : b = Y := e; omega)⟩)
            have ck := hA.cell k hk4
            have fk := hA.frozen k
            have k1 : (k : Int) < 40 := by omega
            have k2 : (0 : Int) ≤ (k : Int) := by omega
            clear hrl hre hA hk
            go_wp2
            go_roundw
            case rel => exact ⟨j + 1, hlt, by go_num, hset, hbw, hrl2, hre2⟩
            case measure => simp [RowKit.intOf]; omega
          · have i1 : ¬ (j : Int) < (p : Int) := by omega
            have ht : LV.take j = LV := List.take_of_length_le (by rw [HP.out]; omega)
            rw [ht] at hA
            go_wp2
            obtain ⟨s1, hs1⟩ : ∃ s1, updL s0 LV false = s1 := ⟨_, rfl⟩
            rw [hs1] at hA
            rw [hs1] at HMV
            clear hs1 ht hR4 hR5 hA7 hb7
            go_loopw [58] (fun ix wr => ∃ (j : Nat), j ≤ q ∧ ix = .int .i64 (j : Int) ∧ Arr wr Y (updL s1 (ET.take j) true) ∧ Below w.heap.size w wr ∧ RdZs (fun b => w.heap.size ≤ b ∧ b < Y) wr LV (.slice la p lc) ∧ RdZs (fun b => w.heap.size ≤ b ∧ b < Y) wr ET (.slice ea q ec)) (fun ix _ => q - (RowKit.intOf ix).toNat)
            case atStart => exact ⟨0, Nat.zero_le _, rfl, by rw [List.take_zero, updL_nil]; exact hA, hb, hrl, hre⟩
            case round =>
              clear hb hrl hre hA
              obtain ⟨j, hj, rfl, hA, hb, hrl, hre⟩ := hrel
              by_cases hlt : j < q
              · have hjl : j < ET.length := by rw [HQ.out]; exact hlt
                have i1 : (j : Int) < (q : Int) := by omega
                have i2 : (0 : Int) ≤ (j : Int) := by omega
                obtain ⟨b, off, hb0, hbl, c0⟩ := zs_at hre j hjl
                obtain ⟨k, hk, hk4⟩ := HE1.out _ (List.getElem_mem hjl)
                have HT : Hid (ET.take (j + 1) = ET.take j ++ [(k : Int)]) := by rw [← hk]; exact List.take_succ_eq_append_getElem hjl
                rw [hk] at c0
                subst hb0
                have hset : Arr (wr.setCell ⟨Y, k, none⟩ (.bool true)) Y (updL s1 (ET.take (j + 1)) true) := by rw [HT.out, updL_snoc]; exact hA.set k hk4 true
                have hbw : Below w.heap.size w (wr.setCell ⟨Y, k, none⟩ (.bool true)) := hb.setCell (p := ⟨Y, k, none⟩) hw6 _
                have hrl2 := hrl.stay kp_int (ok' := fun b => w.heap.size ≤ b ∧ b < Y) (w' := wr.setCell ⟨Y, k, none⟩ (.bool true)) (fun b hb _ => ⟨hb, Below.heap_setCell _ _ _ _ (fun e => by have e' : b = Y := e; omega)⟩)
                have hre2 := hre.stay kp_int (ok' := fun b => w.heap.size ≤ b ∧ b < Y) (w' := wr.setCell ⟨Y, k, none⟩ (.bool true)) (fun b hb _ => ⟨hb, Below.heap_setCell _ _ _ _ (fun e => by have e' : b = Y := e; omega)⟩)
                have ck := hA.cell k hk4
                have fk := hA.frozen k
                have k1 : (k : Int) < 40 := by omega
                have k2 : (0 : Int) ≤ (k : Int) := by omega
                clear hrl hre hA hk
                go_wp2
                go_roundw
                case rel => exact ⟨j + 1, hlt, by go_num, hset, hbw, hrl2, hre2⟩
                case measure => simp [RowKit.intOf]; omega
              · have i1 : ¬ (j : Int) < (q : Int) := by omega
                have ht : ET.take j = ET := List.take_of_length_le (by rw [HQ.out]; omega)
                rw [ht, ← HMV.out] at hA
                have hnu := fun w1 => numbers_any w1 (mvS l xs f t)
                go_upto_region 17 with fail
                refine wp_region_lit ?_
                go_wp2_with (first
                  | (refine wpList_load_row rfl 93 _ rfl Y rfl 93 (bV (mvS l xs f t)).toArray (0, 0) _ hA Try.underlying93 rfl (by rw [bV_size]; exact Try.infoCfs) ?_)
                  | (go_at_call 44; refine (hnu _).mono ?_; rintro e w9 ⟨ra, rn, rc, rfl, hO9, b9⟩)
                  | fail)
                refine bodyPost_ret (results_tmp3 rfl _ _ _) rfl ?_
                exact ⟨_, _, _, _, _, _, _, _, _, rfl, hrl.stay kp_int (fun b hb hl => ⟨hb.1, b9.block b hl⟩), hre.stay kp_int (fun b hb hl => ⟨hb.1, b9.block b hl⟩), (OwnK.down hO9 hb.size).rdz, hb.trans (b9.mono hb.size)⟩
end Go.Proofs.Ytbccdkhbplmknaa

/- Nodes, by parents: what is met on the way up. Math alone. -/
namespace Go.Proofs.Ytbccdkhbplmknaa
set_option linter.unusedVariables false

end Go.Proofs.Ytbccdkhbplmknaa

/- What the document's lies answers. -/
namespace Go.Proofs.Ytbccdkhbplmknaa
open Go.RowKit Go.Lib
set_option linter.unusedSimpArgs false
set_option linter.unusedVariables false
attribute [local go_sem ↓] Go.wp_at_zero Go.wp_at_succ




/-- A row of numbers under construction, as it goes on. -/
def OwnZ (w : World) (base : Nat) (v : Value) (l : List Int) : Prop := w.ownsRow base 3 1 v l.length (l.map (Value.int .i64))
theorem OwnZ.k {w : World} {base : Nat} {v : Value} {l : List Int} (h : OwnZ w base v l) : OwnK w base 3 1 rInt v l := z_ownK h
theorem info_int : ∃ i, Try.prog.info? 3 = some i ∧ i.zero = some (.int .i64 0) ∧ i.size = 1 ∧ i.bytes = 8 := info_parts Try.infoIntT


theorem wrap_less (n : Int) (h0 : -1 ≤ n) (h1 : n < 9223372036854775808) : IntKind.i64.wrap n = n := by
  unfold IntKind.wrap
  simp [IntKind.bits, IntKind.signed]
  omega

def ndA : Nd := (⟨#[97]⟩, (-1, 0, 1), (false, false, true))
theorem rdA (w : World) : RdNd (fun _ => True) (w.alloc (.cells #[.string ⟨#[97]⟩, .int .i64 (-1), .int .i64 0, .int .i64 1, .bool false, .bool false, .bool true] 72)) [ndA] (.slice (some ⟨w.heap.size, 0, none⟩) 1 1) := by
  refine ⟨_, 1, rfl, Nat.le_refl _, by simp [maxLen], fun i hi => ?_⟩
  have : i = 0 := by simp at hi; omega
  subst this
  refine ⟨w.heap.size, 0, ndV ndA, rfl, trivial, by simp, rfl, rfl, fun j u hu => ?_⟩
  have := (Bn.new w (ndV ndA) 72 _ rfl j u hu).1
  rw [show 0 + 0 * 7 + j = j by omega]
  exact this

theorem numS_has (s : Nat → Bool) (m i : Nat) : (numS s m).contains (i : Int) = (decide (i < m) && s i) := by
  rw [Bool.eq_iff_iff, List.contains_iff_mem, Bool.and_eq_true, decide_eq_true_eq]
  unfold numS
  simp only [List.mem_map, List.mem_filter, List.mem_range]
  constructor
  · rintro ⟨k, ⟨h1, h2⟩, h3⟩
    have : k = i := by omega
    subst this
    exact ⟨h1, h2⟩
  · rintro ⟨h1, h2⟩
    exact ⟨i, ⟨h1, h2⟩, rfl⟩

/-- Do as many as must be lie right in each state, and in none? -/
def aF (l : List Nd) (s : Nat → Bool) : Bool := (List.range (l.length + 1)).all (fun k => fitB l s ((k : Int) - 1))
theorem aF_iff {l : List Nd} {s : Nat → Bool} : aF l s = true ↔ ∀ y : Int, -1 ≤ y → y < l.length → fitB l s y = true := by
  unfold aF
  rw [List.all_eq_true]
  constructor
  · intro h y h0 h1
    have := h (y + 1).toNat (by rw [List.mem_range]; omega)
    rwa [show (((y + 1).toNat : Nat) : Int) - 1 = y by omega] at this
  · intro h k hk
    rw [List.mem_range] at hk
    exact h _ (by omega) (by omega)
theorem aF_not {l : List Nd} {s : Nat → Bool} {y : Int} (h0 : -1 ≤ y) (h1 : y < l.length) (h : fitB l s y = false) : aF l s = false := by
  cases e : aF l s with
  | false => rfl
  | true => rw [aF_iff.1 e y h0 h1] at h; cases h
def lgB (l : List Nd) (xs : List Int) : Bool := fmB l && rsB l.length (-1) xs && aF l (stO l.length xs)
set_option maxRecDepth 100000 in
set_option maxHeartbeats 8000000 in
theorem legal_any {ok ok' : Nat → Prop} {w : World} {l : List Nd} {xs : List Int} {v u : Value} (h : RdNd ok w l v) (hx : RdZs ok' w xs u) :
    Calls Try.prog 27 #[v, u] w fun e w' => e = .returned (.bool (lgB l xs)) ∧ Below w.heap.size w w' := by
  obtain ⟨a, cap, rfl, hlc, hcm⟩ := h.form
  have hfm := tformed_any h
  have hri := fun w1 (b1 : Below w.heap.size w w1) => rising_any (a := a) hlc hcm (RdK.on kp_int hx b1)
  obtain ⟨xa, xc, rfl, _, _⟩ := hx.form
  unfold maxLen at hcm
  cases hf : fmB l with
  | false =>
    rw [hf] at hfm
    have HE : Hid (lgB l xs = false) := by show _ = _; unfold lgB; rw [hf]; rfl
    go_enter Try.func27, Try.ntmps27
    go_wp2_with (first | (go_at_call 14; refine hfm.mono ?_; rintro e w1 ⟨rfl, b1⟩) | fail)
    go_ret
    exact ⟨by rw [HE.out] <;> rfl, b1⟩
  | true =>
    have h40 := fm_40 hf
    rw [hf] at hfm
    cases hr : rsB l.length (-1) xs with
    | false =>
      simp only [hr] at hri
      have HE : Hid (lgB l xs = false) := by show _ = _; unfold lgB; rw [hf, hr]; rfl
      go_enter Try.func27, Try.ntmps27
      go_wp2_with (first | (go_at_call 14; refine hfm.mono ?_; rintro e w1 ⟨rfl, b1⟩) | (go_at_call 51; refine (hri _ b1).mono ?_; rintro e w2 ⟨rfl, rfl⟩) | fail)
      go_ret
      exact ⟨by rw [HE.out] <;> rfl, b1⟩
    | true =>
      simp only [hr] at hri
      have HE : Hid (lgB l xs = aF l (stO l.length xs)) := by show _ = _; unfold lgB; rw [hf, hr]; rfl
      have hso := fun w1 (b1 : Below w.heap.size w w1) => setOf_any (h.on kp_nd b1) (RdK.on kp_int hx b1) h40
      have hfi := fun w1 (b1 : Below w.heap.size w w1) i hi => fits_any (h.on kp_nd b1) h40 (stO l.length xs) i hi
      have HT := hidOf (fun (h : ∀ y : Int, -1 ≤ y → y < l.length → fitB l (stO l.length xs) y = true) => aF_iff.2 h)
      have HF := hidOf (fun (y : Int) (h0 : -1 ≤ y) (h1 : y < l.length) (h : fitB l (stO l.length xs) y = false) => aF_not h0 h1 h)
      obtain ⟨n, hn⟩ : ∃ n, l.length = n := ⟨_, rfl⟩
      rw [hn] at hlc h40 HE
      simp only [hn] at hfm hri hso hfi HT HF ⊢
      generalize stO n xs = s at *
      clear hx h hf hr hn
      go_enter Try.func27, Try.ntmps27
      go_upto_region 3 with (first | (go_at_call 14; refine hfm.mono ?_; rintro e w1 ⟨rfl, b1⟩) | (go_at_call 51; refine (hri _ b1).mono ?_; rintro e w2 ⟨rfl, rfl⟩) | fail)
      refine wp_region_lit ?_
      go_wp2_with (first
        | (go_at_call 43; refine (hso _ b1).mono ?_; rintro e w3 ⟨rfl, b3⟩)
        | (refine wpList_store_row rfl 93 _ _ rfl w3.heap.size (bV s).toArray rfl rfl 93 _ (heap_alloc_last w3 _) (by rw [bV_size]; exact Try.infoCfs) (by rw [bV_size]; rfl) (bV_one _) ?_; rw [World.setRow_alloc_new])
        | fail)
      have hb3 := b1.trans (b3.mono b1.size)
      have hal : Below w3.heap.size w3 (w3.alloc (.cells (bV s).toArray 93)) := (Below.refl _ _).alloc (Nat.le_refl _) _
      have hA4 : Arr (w3.alloc (.cells (bV s).toArray 93)) w3.heap.size s := Arr.new w3 _ _ rfl
      have hb4 := hb3.trans (hal.mono hb3.size)
      have hw3 : w.heap.size ≤ w3.heap.size := hb3.size
      generalize w3.alloc (.cells (bV s).toArray 93) = w4 at *
      obtain ⟨Y, hY⟩ : ∃ Y, w3.heap.size = Y := ⟨_, rfl⟩
      rw [hY] at hA4 hw3 ⊢
      clear hY hso hfm hri b1 b3 hal hb3
      go_wp2
      go_loopw [6] (fun ix wr => ∃ (z : Int), -1 ≤ z ∧ z ≤ n ∧ ix = .int .i64 z ∧ Hid (∀ y : Int, -1 ≤ y → y < z → fitB l s y = true) ∧ Arr wr Y s ∧ Below w.heap.size w wr) (fun ix _ => ((n : Int) - RowKit.intOf ix).toNat)
      case atStart => exact ⟨-1, by omega, by omega, rfl, fun y h0 h1 => by omega, hA4, hb4⟩
      case round =>
        obtain ⟨z, hz0, hz1, rfl, HY, hA, hb⟩ := hrel
        by_cases hlt : z < n
        · have hc := hfi _ hb z (by omega)
          cases hq : fitB l s z with
          | false =>
            rw [hq] at hc
            have HQ : Hid (lgB l xs = false) := HE.out.trans (HF.out z hz0 hlt hq)
            clear hq hfi
            go_upto_region 7 with fail
            refine wp_region_lit ?_
            go_wp2_with (first | (refine wpList_load_row rfl 93 _ rfl Y rfl 93 (bV s).toArray (0, 0) _ hA Try.underlying93 rfl (by rw [bV_size]; exact Try.infoCfs) ?_) | (go_at_call 52; refine hc.mono ?_; rintro e w5 ⟨rfl, b5⟩) | fail)
            go_ret
            exact ⟨by rw [HQ.out] <;> rfl, hb.trans (b5.mono hb.size)⟩
          | true =>
            rw [hq] at hc
            have HQ : Hid (∀ y : Int, -1 ≤ y → y < z + 1 → fitB l s y = true) := fun y h0 h1 => by
              by_cases e : y = z
              · rw [e]; exact hq
              · exact HY.out y h0 (by omega)
            have w2 : IntKind.i64.wrap (z + 1) = z + 1 := wrap_less _ (by omega) (by omega)
            clear hq hfi
            go_upto_region 7 with fail
            refine wp_region_lit ?_
            go_wp2_with (first | (refine wpList_load_row rfl 93 _ rfl Y rfl 93 (bV s).toArray (0, 0) _ hA Try.underlying93 rfl (by rw [bV_size]; exact Try.infoCfs) ?_) | (go_at_call 52; refine hc.mono ?_; rintro e w5 ⟨rfl, b5⟩) | fail)
            go_roundw
            case rel => exact ⟨z + 1, by omega, by omega, by go_num, HQ, hA.on b5, hb.trans (b5.mono hb.size)⟩
            case measure => simp [RowKit.intOf]; omega
        · have hz : z = n := by omega
          have HQ : Hid (lgB l xs = true) := HE.out.trans (HT.out (fun y h0 h1 => HY.out y h0 (by omega)))
          go_wp2
          go_ret
          exact ⟨by rw [HQ.out] <;> rfl, hb⟩
end Go.Proofs.Ytbccdkhbplmknaa

/- What is active together stays so: the math. -/
namespace Go.Proofs.Ytbccdkhbplmknaa
open Go.RowKit Go.Lib
set_option linter.unusedSimpArgs false
set_option linter.unusedVariables false
variable {l : List Nd}

theorem cO_congr {s s' : Nat → Bool} {i : Int} : ∀ m, (∀ j < m, nP l j = i → s j = s' j) → cO l s i m = cO l s' i m
  | 0, _ => rfl
  | m + 1, h => by
    unfold cO
    rw [cO_congr m (fun j hj => h j (by omega))]
    by_cases e : nP l m = i
    · rw [h m (by omega) e]
    · rw [if_neg (fun h => e h.1), if_neg (fun h => e h.1)]
theorem cO_zero {s : Nat → Bool} {i : Int} : ∀ m, (∀ j < m, nP l j = i → s j = false) → cO l s i m = 0
  | 0, _ => rfl
  | m + 1, h => by
    unfold cO
    rw [cO_zero m (fun j hj => h j (by omega)), if_neg]
    rintro ⟨e, h2⟩
    rw [h m (by omega) e] at h2
    cases h2
theorem cO_all {s : Nat → Bool} {i : Int} : ∀ m, (∀ j < m, nP l j = i → s j = true) → cO l s i m = cA l i m
  | 0, _ => rfl
  | m + 1, h => by
    unfold cO cA
    rw [cO_all m (fun j hj => h j (by omega))]
    by_cases e : nP l m = i
    · rw [if_pos e, if_pos ⟨e, h m (by omega) e⟩]
    · rw [if_neg e, if_neg (fun h => e h.1)]
theorem cO_one {s : Nat → Bool} {i : Int} {c : Nat} (hc : nP l c = i) (hs : s c = true) : ∀ m, c < m → (∀ j < m, nP l j = i → s j = true → j = c) → cO l s i m = 1
  | 0, h, _ => by omega
  | m + 1, h, hu => by
    unfold cO
    by_cases e : m = c
    · subst e
      rw [if_pos ⟨hc, hs⟩, cO_zero m]
      intro j hj hp
      cases hq : s j with
      | false => rfl
      | true => have := hu j (by omega) hp hq; omega
    · rw [cO_one hc hs m (by omega) (fun j hj => hu j (by omega)), if_neg]
      rintro ⟨h1, h2⟩
      exact e (hu m (by omega) h1 h2)
theorem cO_none {s : Nat → Bool} {i : Int} : ∀ m, cO l s i m = 0 → ∀ j < m, nP l j = i → s j = false
  | 0, _, j, hj, _ => by omega
  | m + 1, h, j, hj, hp => by
    unfold cO at h
    split at h
    · omega
    · rename_i hn
      by_cases e : j = m
      · subst e
        cases hq : s j with
        | false => rfl
        | true => exact absurd ⟨hp, hq⟩ hn
      · exact cO_none m h j (by omega) hp
theorem cO_ex {s : Nat → Bool} {i : Int} (n : Nat) (h : cO l s i n = 1) : ∃ c < n, nP l c = i ∧ s c = true := by
  by_cases hx : ∃ c < n, nP l c = i ∧ s c = true
  · exact hx
  · rw [cO_zero n] at h
    · cases h
    · intro j hj hp
      cases hq : s j with
      | false => rfl
      | true => exact absurd ⟨j, hj, hp, hq⟩ hx
/-- k lies in o, not being it. -/
def InO (l : List Nd) (o : Int) (k : Nat) : Prop := (k : Int) ≠ o ∧ hoB l o k = true
instance (o : Int) (k : Nat) : Decidable (InO l o k) := by unfold InO; infer_instance
theorem in_top (k : Nat) : InO l (-1) k := ⟨by omega, by unfold hoB; simp⟩
theorem in_nat (hf : fmB l = true) {q k : Nat} (hq : q < l.length) : InO l q k ↔ (q < k ∧ k < bN l q) := by
  unfold InO
  rw [hoB_nat hf hq]
  omega
def OkO (l : List Nd) (o : Int) : Prop := o = -1 ∨ ∃ q : Nat, o = q ∧ q < l.length
theorem in_par (hf : fmB l = true) {o : Int} (ho : OkO l o) {k : Nat} (hk : k < l.length) (hp : nP l k = o) : InO l o k := by
  rcases ho with rfl | ⟨q, rfl, hq⟩
  · exact in_top k
  · exact (in_nat hf hq).2 (par_in hf hk hp)
theorem in_up (hf : fmB l = true) {o : Int} (ho : OkO l o) {k : Nat} (hk : k < l.length) (h : InO l o k) (hne : nP l k ≠ o) : ∃ p : Nat, nP l k = p ∧ p < k ∧ InO l o p := by
  have hp := (fmB_fm hf).plt (i := k) hk
  rcases ho with rfl | ⟨q, rfl, hq⟩
  · exact ⟨(nP l k).toNat, by omega, by omega, in_top _⟩
  · rw [in_nat hf hq] at h
    obtain ⟨p, h1, h2, h3, h4⟩ := par_nat hf hq hk h
    refine ⟨p, h1, h3, (in_nat hf hq).2 ⟨by omega, h4⟩⟩
theorem in_down (hf : fmB l = true) {o : Int} (ho : OkO l o) {k p : Nat} (hk : k < l.length) (hp : nP l k = p) (h : InO l o p) : InO l o k := by
  have h2 := par_in hf hk hp
  rcases ho with rfl | ⟨q, rfl, hq⟩
  · exact in_top _
  · rw [in_nat hf hq] at h ⊢
    have := nest hf hq (by omega) h
    omega
theorem en_in (hf : fmB l = true) {o : Int} (ho : OkO l o) (t : Int) : ∀ (f k : Nat), k < f → k < l.length → enS l o t k = true → InO l o k
  | 0, k, h, _, _ => by omega
  | f + 1, k, h, hk, he => by
    rw [enS_eq hf o t hk] at he
    by_cases hp : nP l k = o
    · exact in_par hf ho hk hp
    · rw [if_neg hp] at he
      split at he
      · rename_i h2
        have hp2 := (fmB_fm hf).plt (i := k) hk
        obtain ⟨p, hpe⟩ : ∃ p : Nat, nP l k = p := ⟨(nP l k).toNat, by omega⟩
        rw [hpe, Int.toNat_natCast] at h2
        exact in_down hf ho hk hpe (en_in hf ho t f p (by omega) (by omega) h2.2)
      · cases he
/-- One of those right in o holds t. -/
theorem one_ex (hf : fmB l = true) {o : Int} (ho : OkO l o) {t : Nat} (ht : t < l.length) : ∀ (f k : Nat), k < f → k < l.length → InO l o k → hoB l k t = true → ∃ c < l.length, nP l c = o ∧ hoB l c t = true
  | 0, k, h, _, _, _ => by omega
  | f + 1, k, h, hk, hi, hh => by
    by_cases hp : nP l k = o
    · exact ⟨k, hk, hp, hh⟩
    · obtain ⟨p, hpe, hpk, hi2⟩ := in_up hf ho hk hi hp
      have h1 := par_in hf hk hpe
      have h2 := nest hf (x := p) (by omega) hk h1
      rw [hoB_nat hf hk] at hh
      exact one_ex hf ho ht f p (by omega) (by omega) hi2 ((hoB_nat hf (by omega)).2 ⟨by omega, by omega⟩)
theorem one_lt (hf : fmB l = true) {o : Int} {t c d : Nat} (hc : c < l.length) (hd : d < l.length) (pc : nP l c = o) (pd : nP l d = o) (h1 : hoB l c t = true) (h2 : hoB l d t = true) : ¬ c < d := by
  intro h
  rw [hoB_nat hf hc] at h1
  rw [hoB_nat hf hd] at h2
  have h3 := par_of hf hc hd ⟨h, by omega⟩
  have h4 := (fmB_fm hf).plt (i := c) hc
  omega
theorem one_hold (hf : fmB l = true) {o : Int} (ho : OkO l o) {t : Nat} (ht : t < l.length) (hi : InO l o t) : ∃ c < l.length, nP l c = o ∧ hoB l c t = true ∧ ∀ j < l.length, nP l j = o → hoB l j t = true → j = c := by
  have hb := bN_lt hf ht
  obtain ⟨c, h1, h2, h3⟩ := one_ex hf ho ht (t + 1) t (by omega) ht hi ((hoB_nat hf ht).2 ⟨by omega, by omega⟩)
  refine ⟨c, h1, h2, h3, fun j hj hp hh => ?_⟩
  have := one_lt hf h1 hj h2 hp h3 hh
  have := one_lt hf hj h1 hp h2 hh h3
  omega
theorem nL_iff (hf : fmB l = true) {k : Nat} (hk : k < l.length) : nL l k = true ↔ bN l k = k + 1 := by
  have h := (fmB_fm hf).2.2 k hk
  have hb := bN_lt hf hk
  rw [h.2.2, decide_eq_true_eq]
  omega
/-- On the way to t all are entered. -/
theorem en_way (hf : fmB l = true) {o : Int} (ho : OkO l o) {t : Nat} (ht : t < l.length) : ∀ (f k : Nat), k < f → k < l.length → InO l o k → hoB l k t = true → enS l o t k = true
  | 0, k, h, _, _, _ => by omega
  | f + 1, k, h, hk, hi, hh => by
    rw [enS_eq hf o t hk]
    by_cases hp : nP l k = o
    · rw [if_pos hp]; exact hh
    · obtain ⟨p, hpe, hpk, hi2⟩ := in_up hf ho hk hi hp
      have h1 := par_in hf hk hpe
      have h2 := nest hf (x := p) (by omega) hk h1
      have hh2 := (hoB_nat hf hk).1 hh
      have hhp : hoB l p t = true := (hoB_nat hf (by omega)).2 ⟨by omega, by omega⟩
      rw [if_neg hp, hpe, Int.toNat_natCast, if_pos ⟨by omega, en_way hf ho ht f p (by omega) (by omega) hi2 hhp⟩, foB_in t hpe]
      split
      · rfl
      · rw [if_pos ⟨by omega, hhp⟩]; exact hh
def FitA (l : List Nd) (s : Nat → Bool) : Prop := ∀ y : Int, -1 ≤ y → y < l.length → fitB l s y = true
theorem fit_same {s s' : Nat → Bool} {i : Int} (h : fitB l s i = true) (h1 : 0 ≤ i → s' i.toNat = s i.toNat) (h2 : ∀ j < l.length, nP l j = i → s' j = s j) : fitB l s' i = true := by
  unfold fitB at h ⊢
  rw [cO_congr l.length h2]
  by_cases h0 : 0 ≤ i
  · rw [h1 h0]; exact h
  · rw [if_neg (fun h => h0 h.1), if_neg (fun h => h0 h.1)] at h ⊢
    exact h
/-- Whatever holds what is active is active. -/
theorem up_on {A : Nat → Bool} (hf : fmB l = true) (hA : FitA l A) {q : Nat} (hq : q < l.length) : ∀ (f k : Nat), k < f → k < l.length → InO l q k → A k = true → A q = true
  | 0, k, h, _, _, _ => by omega
  | f + 1, k, h, hk, hi, ha => by
    have step : ∀ p : Nat, p < l.length → nP l k = p → A p = true := by
      intro p hp hpe
      cases hq : A p with
      | true => rfl
      | false =>
        have h1 := hA p (by omega) (by omega)
        unfold fitB at h1
        rw [if_pos ⟨by omega, by rw [Int.toNat_natCast]; exact hq⟩, decide_eq_true_eq] at h1
        rw [cO_none _ h1 k hk hpe] at ha
        cases ha
    by_cases hp : nP l k = q
    · exact step q hq hp
    · obtain ⟨p, hpe, hpk, hi2⟩ := in_up hf (.inr ⟨q, rfl, hq⟩) hk hi hp
      exact up_on hf hA hq f p (by omega) (by omega) hi2 (step p (by omega) hpe)
theorem fit_move (hf : fmB l = true) {A N : Nat → Bool} {o : Int} {t : Nat} (ht : t < l.length) (hi : InO l o t) (ho : o = -1 ∨ (∃ q : Nat, o = q ∧ q < l.length ∧ nA l q = false ∧ A q = true) ∧ FitA l A) (hN : ∀ k < l.length, N k = if InO l o k then enS l o t k else A k) : FitA l N := by
  have hok : OkO l o := by
    rcases ho with h | ⟨⟨q, h1, h2, _⟩, _⟩
    · exact .inl h
    · exact .inr ⟨q, h1, h2⟩
  intro i h0 h1
  by_cases hio : i = o
  · subst hio
    obtain ⟨c, hc, pc, hh, hu⟩ := one_hold hf hok ht hi
    have hNc : ∀ j < l.length, nP l j = i → N j = hoB l j t := by
      intro j hj hp
      rw [hN j hj, if_pos (in_par hf hok hj hp), enS_eq hf i t hj, if_pos hp]
    have hone : cO l N i l.length = 1 := cO_one pc (by rw [hNc c hc pc]; exact hh) _ hc (fun j hj hp hs => hu j hj hp (by rw [← hNc j hj hp]; exact hs))
    unfold fitB
    rcases ho with rfl | ⟨⟨q, rfl, hq, hna, haq⟩, _⟩
    · rw [if_neg (by omega), if_neg (by omega), hone]; rfl
    · have hNq : N q = true := by rw [hN q hq, if_neg (fun h => h.1 rfl)]; exact haq
      have hl : nL l q = false := by
        cases e : nL l q with
        | false => rfl
        | true =>
          have := (nL_iff hf hq).1 e
          have := (in_nat hf hq).1 hi
          omega
      rw [Int.toNat_natCast, if_neg (by rw [hNq]; simp), if_neg (by rw [hl, hna]; simp), hone]
      rfl
  · by_cases hip : 0 ≤ i ∧ InO l o i.toNat
    · obtain ⟨hi0, hin⟩ := hip
      obtain ⟨p, rfl⟩ : ∃ p : Nat, i = p := ⟨i.toNat, by omega⟩
      rw [Int.toNat_natCast] at hin
      have hp : p < l.length := by omega
      have hNp : N p = enS l o t p := by rw [hN p hp, if_pos hin]
      have hNc : ∀ j < l.length, nP l j = p → N j = if enS l o t p = true then foB l j t else false := by
        intro j hj hpj
        rw [hN j hj, if_pos (in_down hf hok hj hpj hin), enS_eq hf o t hj, if_neg (by omega), hpj, Int.toNat_natCast]
        by_cases e : enS l o t p = true
        · rw [if_pos ⟨by omega, e⟩, if_pos e]
        · rw [if_neg (fun h => e h.2), if_neg e]
      unfold fitB
      rw [Int.toNat_natCast, hNp]
      cases he : enS l o t p with
      | false =>
        rw [if_pos ⟨by omega, rfl⟩, decide_eq_true_eq]
        refine cO_zero _ (fun j hj hpj => ?_)
        rw [hNc j hj hpj, he]
        rfl
      | true =>
        rw [if_neg (by simp)]
        rw [he] at hNc
        simp only [if_true] at hNc
        cases hna : nA l p with
        | true =>
          rw [if_pos ⟨by omega, by simp⟩, decide_eq_true_eq]
          refine cO_all _ (fun j hj hpj => ?_)
          rw [hNc j hj hpj, foB_in t hpj, hna]
          rfl
        | false =>
          cases hnl : nL l p with
          | true =>
            rw [if_pos ⟨by omega, by simp⟩, decide_eq_true_eq]
            refine cO_all _ (fun j hj hpj => ?_)
            have := par_in hf hj hpj
            have := (nL_iff hf hp).1 hnl
            omega
          | false =>
            rw [if_neg (by simp), decide_eq_true_eq]
            have hfo : ∀ j < l.length, nP l j = p → N j = if p ≠ t ∧ hoB l p t = true then hoB l j t else decide (j = p + 1) := by
              intro j hj hpj
              rw [hNc j hj hpj, foB_in t hpj, hna]
              rfl
            by_cases hc : p ≠ t ∧ hoB l p t = true
            · obtain ⟨c, h2, h3, h4, h5⟩ := one_hold hf (.inr ⟨p, rfl, hp⟩) ht ⟨by omega, hc.2⟩
              refine cO_one h3 (by rw [hfo c h2 h3, if_pos hc]; exact h4) _ h2 (fun j hj hpj hs => h5 j hj hpj ?_)
              rw [hfo j hj hpj, if_pos hc] at hs
              exact hs
            · have hb := bN_lt hf hp
              have hb1 : p + 1 < bN l p := by
                have : ¬ bN l p = p + 1 := fun e => by rw [(nL_iff hf hp).2 e] at hnl; cases hnl
                omega
              have h3 := first_in hf hp hb1
              refine cO_one h3 (by rw [hfo _ (by omega) h3, if_neg hc]; simp) _ (by omega) (fun j hj hpj hs => ?_)
              rw [hfo j hj hpj, if_neg hc, decide_eq_true_eq] at hs
              exact hs
    · have hne : o ≠ -1 := by
        intro e
        subst e
        exact hip ⟨by omega, in_top _⟩
      rcases ho with h | ⟨_, hA⟩
      · exact absurd h hne
      refine fit_same (hA i h0 h1) (fun h => ?_) (fun j hj hpj => ?_)
      · rw [hN _ (by omega), if_neg (fun h2 => hip ⟨h, h2⟩)]
      · rw [hN j hj, if_neg]
        intro h2
        obtain ⟨p, hpe, _, h3⟩ := in_up hf hok hj h2 (by rw [hpj]; exact hio)
        rw [hpj] at hpe
        exact hip ⟨by omega, by rw [hpe, Int.toNat_natCast]; exact h3⟩
variable {l : List Nd}

theorem rs_range (n : Nat) (s : Nat → Bool) (h : ∀ k, s k = true → k < n) : ∀ (c a : Nat) (la : Int), la < a → rsB n la (((List.range' a c).filter s).map (fun i : Nat => (i : Int))) = true
  | 0, a, la, _ => rfl
  | c + 1, a, la, hl => by
    rw [List.range'_succ]
    cases e : s a with
    | false =>
      rw [List.filter_cons_of_neg (by simp [e])]
      exact rs_range n s h c (a + 1) la (by omega)
    | true =>
      rw [List.filter_cons_of_pos e, List.map_cons]
      unfold rsB
      have := h a e
      rw [if_neg (by omega)]
      exact rs_range n s h c (a + 1) a (by omega)
theorem rs_numS {n m : Nat} {s : Nat → Bool} (h : ∀ k, s k = true → k < n) : rsB n (-1) (numS s m) = true := by
  unfold numS
  rw [List.range_eq_range']
  exact rs_range n s h m 0 (-1) (by omega)
theorem rs_mem {n : Nat} : ∀ (xs : List Int) (la : Int), rsB n la xs = true → ∀ x ∈ xs, la < x ∧ x < n
  | [], _, _, x, hx => by simp at hx
  | y :: r, la, h, x, hx => by
    unfold rsB at h
    split at h
    · cases h
    · rename_i hn
      rcases List.mem_cons.1 hx with rfl | hx
      · omega
      · have := rs_mem r y h x hx
        omega
theorem lg_parts {xs : List Int} (h : lgB l xs = true) : fmB l = true ∧ rsB l.length (-1) xs = true ∧ FitA l (stO l.length xs) := by
  unfold lgB at h
  simp only [Bool.and_eq_true] at h
  exact ⟨h.1.1, h.1.2, aF_iff.1 h.2⟩
theorem fitA_congr {s s' : Nat → Bool} (h : FitA l s) (e : ∀ k < l.length, s' k = s k) : FitA l s' := fun y h0 h1 => fit_same (h y h0 h1) (fun h2 => e _ (by omega)) (fun j hj _ => e j hj)
theorem lg_numS (hf : fmB l = true) {s : Nat → Bool} {m : Nat} (hm : l.length ≤ m) (h1 : ∀ k, s k = true → k < l.length) (h2 : FitA l s) : lgB l (numS s m) = true := by
  unfold lgB
  rw [hf, rs_numS h1]
  refine aF_iff.2 (fitA_congr h2 (fun k hk => ?_))
  unfold stO
  rw [numS_has, decide_eq_true hk, decide_eq_true (show k < m by omega)]
  rfl
/-- One is active. -/
theorem lg_some {xs : List Int} (h : lgB l xs = true) : xs ≠ [] := by
  obtain ⟨_, _, h3⟩ := lg_parts h
  have h4 := h3 (-1) (by omega) (by omega)
  unfold fitB at h4
  rw [if_neg (by omega), if_neg (by omega), decide_eq_true_eq] at h4
  obtain ⟨c, _, _, hc⟩ := cO_ex _ h4
  intro e
  subst e
  simp [stO] at hc
theorem lg_mem {xs : List Int} (h : lgB l xs = true) {x : Int} (hx : x ∈ xs) : ∃ k : Nat, x = k ∧ k < l.length ∧ stO l.length xs k = true := by
  obtain ⟨_, h2, _⟩ := lg_parts h
  have := rs_mem _ _ h2 x hx
  refine ⟨x.toNat, by omega, by omega, ?_⟩
  unfold stO
  rw [decide_eq_true (by omega), show ((x.toNat : Nat) : Int) = x by omega]
  simpa using hx
theorem en_lt {o t : Int} {k : Nat} (h : enS l o t k = true) : k < l.length := by
  unfold enS at h
  split at h
  · assumption
  · cases h
/-- At the start. -/
theorem start_lg (hf : fmB l = true) (hn : 0 < l.length) : etB l (-1) 0 = numS (enS l (-1) 0) 40 ∧ FitA l (enS l (-1) 0) := by
  constructor
  · unfold etB
    rw [if_neg]
    rintro (h | h)
    · omega
    · have : wiB l (0 : Nat) (-1) = true := wiB_of hf hn (by omega) (fun h => by omega)
      rw [show ((0 : Nat) : Int) = 0 from rfl] at this
      rw [this] at h
      cases h
  · refine fit_move hf (A := fun _ => false) (t := 0) hn (in_top 0) (.inl rfl) (fun k hk => ?_)
    rw [if_pos (in_top k)]
    rfl
theorem mt_in (hf : fmB l = true) {f t : Nat} (h1 : f < l.length) (h2 : t < l.length) : OkO l (mtB l f t) ∧ InO l (mtB l f t) f ∧ InO l (mtB l f t) t := by
  obtain ⟨a1, a2, _⟩ := mtB_spec hf h1 h2
  have a3 := mtB_lt hf h1 h2
  by_cases h : mtB l f t = -1
  · rw [h]
    exact ⟨.inl rfl, in_top _, in_top _⟩
  · obtain ⟨q, hq⟩ : ∃ q : Nat, mtB l f t = q := ⟨(mtB l f t).toNat, by omega⟩
    have a4 := a2 (by omega)
    rw [hq] at a3 a4 ⊢
    have hql : q < l.length := by omega
    exact ⟨.inr ⟨q, rfl, hql⟩, (in_nat hf hql).2 ((in_iff hf hql h1).2 a4.1), (in_nat hf hql).2 ((in_iff hf hql h2).2 a4.2)⟩
theorem et_mt (hf : fmB l = true) {f t : Nat} (h1 : f < l.length) (h2 : t < l.length) : etB l (mtB l f t) t = numS (enS l (mtB l f t) t) 40 := by
  obtain ⟨a1, a2, _⟩ := mtB_spec hf h1 h2
  have a3 := mtB_lt hf h1 h2
  unfold etB
  rw [if_neg]
  rintro (h | h)
  · omega
  · rw [wiB_of hf h2 a1 (fun h => (a2 h).2)] at h
    cases h
theorem mvS_eq (hf : fmB l = true) {xs : List Int} {f t : Nat} (h1 : f < l.length) (h2 : t < l.length) {k : Nat} (hk : k < l.length) : mvS l xs f t k = if InO l (mtB l f t) k then enS l (mtB l f t) t k else stO l.length xs k := by
  have h40 := fm_40 hf
  obtain ⟨ho, _, _⟩ := mt_in hf h1 h2
  have hok : mtB l f t = -1 ∨ nmB l.length (mtB l f t) = true := by
    rcases ho with h | ⟨q, h, hq⟩
    · exact .inl h
    · rw [h]; exact .inr (nmB_nat hq)
  unfold mvS updL
  rw [et_mt hf h1 h2, numS_has, decide_eq_true (show k < 40 by omega), Bool.true_and]
  have hl : (lvB l xs (mtB l f t)).contains (k : Int) = lvS l xs (mtB l f t) k := by
    unfold lvB
    rw [if_pos (by rw [hf]; rcases hok with h | h <;> simp [h]), List.contains_reverse, numS_has, decide_eq_true (show k < 40 by omega), Bool.true_and]
  rw [hl]
  have hin := fun h => en_in hf ho t (k + 1) k (by omega) hk h
  unfold lvS
  by_cases hi : InO l (mtB l f t) k
  · rw [if_pos hi, decide_eq_true hi.1, hi.2]
    cases enS l (mtB l f t) t k <;> cases stO l.length xs k <;> rfl
  · rw [if_neg hi]
    have he : enS l (mtB l f t) t k = false := by
      cases e : enS l (mtB l f t) t k with
      | false => rfl
      | true => exact absurd (hin e) hi
    have hv : (stO l.length xs k && decide ((k : Int) ≠ mtB l f t) && hoB l (mtB l f t) k) = false := by
      cases e : (stO l.length xs k && decide ((k : Int) ≠ mtB l f t) && hoB l (mtB l f t) k) with
      | false => rfl
      | true =>
        simp only [Bool.and_eq_true, decide_eq_true_eq] at e
        exact absurd ⟨e.1.2, e.2⟩ hi
    rw [he, hv]
    rfl
theorem mvS_lt (hf : fmB l = true) {xs : List Int} {f t : Nat} (h1 : f < l.length) (h2 : t < l.length) {k : Nat} (h : mvS l xs f t k = true) : k < l.length := by
  unfold mvS updL at h
  split at h
  · rename_i h3
    rw [et_mt hf h1 h2, numS_has, Bool.and_eq_true] at h3
    exact en_lt h3.2
  · split at h
    · cases h
    · unfold stO at h
      simp only [Bool.and_eq_true, decide_eq_true_eq] at h
      exact h.1
/-- A move from an active state leaves legal what was. -/
theorem move_lg {xs : List Int} (h : lgB l xs = true) {f t : Nat} (hx : (f : Int) ∈ xs) (ht : t < l.length) (hm : 0 ≤ mtB l f t → nA l (mtB l f t).toNat = false) :
    lgB l (mvB l xs f t).2.2 = true ∧ (mvB l xs f t).2.1 ≠ [] ∧ (t : Int) ∈ (mvB l xs f t).2.2 := by
  obtain ⟨hf, hr, hA⟩ := lg_parts h
  obtain ⟨k, hk, hfl, hst⟩ := lg_mem h hx
  have : k = f := by omega
  subst this
  obtain ⟨ho, hi1, hi2⟩ := mt_in hf hfl ht
  have h40 := fm_40 hf
  have hb := bN_lt hf ht
  have hte := en_way hf ho ht (t + 1) t (by omega) ht hi2 ((hoB_nat hf ht).2 ⟨by omega, by omega⟩)
  unfold mvB
  rw [hf, nmB_nat hfl, nmB_nat ht, if_pos (by rfl)]
  refine ⟨lg_numS hf h40 (fun j hj => mvS_lt hf hfl ht hj) (fit_move hf ht hi2 ?_ (fun j hj => mvS_eq hf hfl ht hj)), ?_, ?_⟩
  · rcases ho with ho | ⟨q, ho, hq⟩
    · exact .inl ho
    · refine .inr ⟨⟨q, ho, hq, ?_, ?_⟩, hA⟩
      · have := hm (by omega)
        rw [ho, Int.toNat_natCast] at this
        exact this
      · rw [ho] at hi1
        exact up_on hf hA hq (k + 1) k (by omega) hfl hi1 hst
  · intro e
    have h3 : (numS (enS l (mtB l k t) t) 40).contains (t : Int) = true := by rw [numS_has, hte, decide_eq_true (show t < 40 by omega)]; rfl
    have e2 : etB l (mtB l k t) t = [] := e
    rw [← et_mt hf hfl ht, e2] at h3
    cases h3
  · rw [← List.contains_iff_mem, numS_has, mvS_eq hf hfl ht ht, if_pos hi2, hte, decide_eq_true (show t < 40 by omega)]
    rfl
end Go.Proofs.Ytbccdkhbplmknaa

/- The law's sorted; the program's Start. -/
namespace Go.Proofs.Ytbccdkhbplmknaa
open Go.RowKit Go.Lib
set_option linter.unusedSimpArgs false
set_option linter.unusedVariables false
attribute [local go_sem ↓] Go.wp_at_zero Go.wp_at_succ
set_option maxRecDepth 100000 in
set_option maxHeartbeats 4000000 in
theorem start_any {ok : Nat → Prop} {w : World} {l : List Nd} {v : Value} (h : RdNd ok w l v) :
    Calls Try.prog 26 #[v] w fun e w' => ∃ a n c, e = .returned (.slice a n c) ∧ RdZs (fun b => w.heap.size ≤ b) w' (etB l (-1) 0) (.slice a n c) ∧ Below w.heap.size w w' := by
  have he := enter_any h (-1) 0
  obtain ⟨a, cap, rfl, hlc, hcm⟩ := h.form
  go_enter Try.func26, Try.ntmps26
  go_wp2_with (first | (go_at_call 42; refine he.mono ?_; rintro e w1 ⟨ra, rn, rc, rfl, hO, b1⟩) | fail)
  go_ret
  exact ⟨_, _, _, rfl, hO.rdz, b1⟩
def hasS (xs : List Int) : Nat → Bool := fun i => xs.contains (i : Int)
theorem has_drop {xs : List Int} {j : Nat} {x y : Int} (h : j < xs.length) (hx : xs[j] = x) : (xs.drop j).contains y = if y = x then true else (xs.drop (j + 1)).contains y := by
  rw [List.drop_eq_getElem_cons h, hx, List.contains_cons]
  by_cases e : y = x
  · rw [if_pos e]; simp [e]
  · rw [if_neg e, beq_eq_false_iff_ne.2 e, Bool.false_or]
set_option maxRecDepth 100000 in
set_option maxHeartbeats 8000000 in
theorem sorted_any {ok : Nat → Prop} {w : World} {xs : List Int} {u : Value} (hx : RdZs ok w xs u) (n : Nat) (hn : n ≤ 40) :
    Calls Try.prog 25 #[u, .int .i64 (n : Int)] w fun e w' => ∃ a c d, e = .returned (.slice a c d) ∧ RdZs (fun b => w.heap.size ≤ b) w' (numS (hasS xs) n) (.slice a c d) ∧ Below w.heap.size w w' := by
  obtain ⟨xa, xc, rfl, hxc, hxm⟩ := hx.form
  unfold maxLen at hxm
  have HX := hidOf hx
  obtain ⟨m, hm⟩ : ∃ m, xs.length = m := ⟨_, rfl⟩
  rw [hm] at hxc ⊢
  have HM := hidOf hm
  obtain ⟨i0, hi, hz0, hz1, hz2⟩ := info_int
  clear hx hm
  go_enter Try.func25, Try.ntmps25
  have HST : Hid (∀ i, numS (hasS xs) (i + 1) = if hasS xs i then numS (hasS xs) i ++ [(i : Int)] else numS (hasS xs) i) := fun i => numS_succ _ _
  have HLN := fun i => numS_len (hasS xs) i
  have HH : Hid (∀ i, hasS xs i = (xs.drop 0).contains (i : Int)) := fun i => rfl
  go_wp2
  go_loopw [5, 9] (fun t ix wr => ∃ (i : Nat), i ≤ n ∧ ix = .int .i64 (i : Int) ∧ OwnK wr w.heap.size 3 1 rInt t (numS (hasS xs) i) ∧ Below w.heap.size w wr) (fun _ ix _ => n - (RowKit.intOf ix).toNat)
  case atStart => exact ⟨0, Nat.zero_le _, rfl, ownK_nil _ _ _ _ _, Below.refl _ _⟩
  case round =>
    obtain ⟨i, hi1, rfl, hO, hb⟩ := hrel
    obtain ⟨va, vc, rfl, hvl, hvm⟩ := hO.form
    have hl := HLN i
    by_cases hlt : i < n
    · have i1 : (i : Int) < (n : Int) := by omega
      clear HLN
      go_wp2
      go_loopw [5, 14] (fun t kx wr' => wr' = wr ∧ t = .slice va (numS (hasS xs) i).length vc ∧ ∃ (j : Nat), j ≤ m ∧ kx = .int .i64 (j : Int) ∧ Hid (hasS xs i = (xs.drop j).contains (i : Int))) (fun _ kx _ => m - (RowKit.intOf kx).toNat)
      case atStart => exact ⟨rfl, rfl, 0, Nat.zero_le _, rfl, HH.out i⟩
      case round =>
        obtain ⟨rfl, rfl, j, hj, rfl, HI⟩ := hrel
        by_cases hjm : j < m
        · have hjl : j < xs.length := by rw [HM.out]; exact hjm
          have j1 : (j : Int) < (m : Int) := by omega
          have j2 : (0 : Int) ≤ (j : Int) := by omega
          obtain ⟨b, off, rfl, hbl, c0⟩ := zs_at HX.out j hjl
          replace c0 := (hb.cell (p := ⟨b, off + j, none⟩) hbl).trans c0
          have HD := hidOf (fun x (h : xs[j] = x) => has_drop (y := (i : Int)) hjl h)
          obtain ⟨x, hx⟩ : ∃ x, xs[j] = x := ⟨_, rfl⟩
          have hd := HD.out x hx
          rw [hx] at c0
          rw [← HI.out] at hd
          by_cases e : (i : Int) = x
          · have e2 : (x == (i : Int)) = true := by simp [e]
            rw [if_pos e] at hd
            have hs := HST.out i
            rw [hd, if_pos rfl] at hs
            have HS := hidOf hs
            clear hd hx HD HI e hs HH
            go_wp2_with (first
              | (at_builtin; refine wpList_pushK _ rfl _ _ 59 rfl w.heap.size 3 i0 (.int .i64 0) 1 8 Try.underlying59 hi hz0 hz1 hz2 rfl kp_int (.slice va (numS (hasS xs) i).length vc) (numS (hasS xs) i) (i : Int) [.int .i64 (i : Int)] _ rfl rfl rfl (by simp [Value.oneCell']) hO rfl hb.size (fun x hx => (hO.blk x hx).2) (by omega) (by unfold maxLen; omega) hb.size ?_; intro vb wb hOb hgb hbb)
              | fail)
            go_wp2
            go_roundw
            case rel => exact ⟨i + 1, hlt, by go_num, by rw [HS.out]; exact hOb, hb.trans hbb⟩
            case measure => simp [RowKit.intOf]; omega
          · have e2 : (x == (i : Int)) = false := beq_eq_false_iff_ne.2 (fun h => e h.symm)
            rw [if_neg e] at hd
            have HD2 := hidOf hd
            clear hd hx HD HI e
            go_wp2
            go_roundw
            case rel => exact ⟨by trivial, by first | trivial | rfl, j + 1, hjm, by go_num, HD2⟩
            case measure => simp [RowKit.intOf]; omega
        · have j1 : ¬ (j : Int) < (m : Int) := by omega
          have hs := HST.out i
          have hi2 := HI.out
          rw [List.drop_eq_nil_of_le (by rw [HM.out]; omega)] at hi2
          rw [hi2] at hs
          have HS : Hid (numS (hasS xs) (i + 1) = numS (hasS xs) i) := by show _ = _; rw [hs]; rfl
          clear hs hi2 HI
          go_wp2
          go_roundw
          case rel => exact ⟨i + 1, hlt, by go_num, by rw [HS.out]; exact hO, hb⟩
          case measure => simp [RowKit.intOf]; omega
    · have i1 : ¬ (i : Int) < (n : Int) := by omega
      obtain rfl : i = n := by omega
      go_wp2
      go_ret
      exact ⟨_, _, _, rfl, hO.rdz, hb⟩
theorem lgA0 : lgB [ndA] [0] = true := by kernel_rfl
theorem rdZ0 (w : World) (x : Obj) : RdZs (fun _ => True) ((w.alloc x).alloc (.cells #[.int .i64 0] 3)) [0] (.slice (some ⟨w.heap.size + 1, 0, none⟩) 1 1) := by
  have e : (w.alloc x).heap.size = w.heap.size + 1 := by simp
  rw [← e]
  generalize w.alloc x = w1
  refine ⟨_, 1, rfl, Nat.le_refl _, by simp [maxLen], fun i hi => ?_⟩
  have : i = 0 := by simp at hi; omega
  subst this
  refine ⟨w1.heap.size, 0, [.int .i64 0], rfl, trivial, by simp, rfl, rfl, fun j u hu => ?_⟩
  have := (Bn.new w1 [.int .i64 0] 3 _ rfl j u hu).1
  rw [show 0 + 0 * 1 + j = j by omega]
  exact this
set_option maxRecDepth 100000 in
set_option maxHeartbeats 4000000 in
theorem awake10_any (w : World) : Calls Try.prog 20 #[] w fun e w' => e = .returned (.bool true) ∧ Below w.heap.size w w' := by
  have hb0 := (Below.refl w.heap.size w).alloc (Nat.le_refl _) (.cells #[.string ⟨#[97]⟩, .int .i64 (-1), .int .i64 0, .int .i64 1, .bool false, .bool false, .bool true] 72)
  have hb1 := hb0.alloc hb0.size (.cells #[.int .i64 0] 3)
  have hr := ((rdA w).stay kp_nd (fun k hk hl => ⟨hk, ((Below.refl _ _).alloc (Nat.le_refl _) (.cells #[.int .i64 0] 3)).block k hl⟩))
  have hlg := legal_any hr (rdZ0 w _)
  rw [lgA0] at hlg
  go_enter Try.func20, Try.ntmps20
  go_wp2_with (first | (go_at_call 27; refine hlg.mono ?_; rintro e w1 ⟨rfl, b1⟩) | fail)
  go_ret
  exact ⟨rfl, hb1.trans (b1.mono hb1.size)⟩
end Go.Proofs.Ytbccdkhbplmknaa

/- Variables in memory; what an expression's value is. -/
namespace Go.Proofs.Ytbccdkhbplmknaa
open Go.RowKit Go.Lib
set_option linter.unusedSimpArgs false
set_option linter.unusedVariables false

abbrev Vr := ByteArray × Int
/-- The slice v reads as the variables vs. -/
def RdV (w : World) (v : Value) (vs : List Vr) : Prop :=
  ∃ a cap, v = .slice a vs.length cap ∧ vs.length ≤ cap ∧ cap ≤ maxLen ∧ (a = none → vs = []) ∧
    ∀ x, a = some x → ∀ (i : Nat) (h : i < vs.length), w.cell? (x.add (i * 2)) = some (.string (vs[i]).1) ∧ w.cell? (x.add (i * 2 + 1)) = some (.int .i64 (vs[i]).2)
theorem RdV.below {w w' : World} {v : Value} {vs : List Vr} {B : Nat} (h : RdV w v vs) (hb : Below B w w') (hB : w.heap.size ≤ B) : RdV w' v vs := by
  obtain ⟨a, cap, rfl, hc, hm, hn, hcell⟩ := h
  refine ⟨a, cap, rfl, hc, hm, hn, fun x hx i hi => ?_⟩
  obtain ⟨h1, h2⟩ := hcell x hx i hi
  have hk : ∀ p u, w.cell? p = some u → w'.cell? p = some u := fun p u hp => by rw [hb.cell (Nat.lt_of_lt_of_le (World.block_lt_of_cell? w _ hp) hB)]; exact hp
  exact ⟨hk _ _ h1, hk _ _ h2⟩
theorem RdV.form {w : World} {v : Value} {vs : List Vr} (h : RdV w v vs) : ∃ a cap, v = .slice a vs.length cap ∧ vs.length ≤ cap ∧ cap ≤ 9223372036854775807 ∧
    ∀ (i : Nat) (hi : i < vs.length), ∃ b off, a = some ⟨b, off, none⟩ ∧ b < w.heap.size ∧ w.cell? ⟨b, off + i * 2, none⟩ = some (.string (vs[i]).1) ∧ w.cell? ⟨b, off + i * 2 + 1, none⟩ = some (.int .i64 (vs[i]).2) := by
  obtain ⟨a, cap, rfl, hc, hm, hn, hcell⟩ := h
  refine ⟨a, cap, rfl, hc, by unfold maxLen at hm; omega, fun i hi => ?_⟩
  cases a with
  | none => have := hn rfl; subst this; simp at hi
  | some x =>
    obtain ⟨b, off, spot⟩ := x
    obtain ⟨h1, h2⟩ := hcell _ rfl i hi
    obtain ⟨z1, _⟩ := hcell _ rfl 0 (by omega)
    have hspot : spot = none := by simpa [Addr.add] using World.cell?_spot z1
    subst hspot
    rw [add_plain] at h1 h2
    exact ⟨b, off, rfl, World.block_lt_of_cell? w _ h1, h1, h2⟩

end Go.Proofs.Ytbccdkhbplmknaa

/- Arguments that are trees of nodes, or lists of variables, opened. -/
namespace Go.Proofs.Ytbccdkhbplmknaa
open Go.ChangeShapes Go.WideShapes Go.ChangeAt Go.RowKit
set_option linter.unusedSimpArgs false
set_option linter.unusedVariables false

theorem half2 (g : Nat) : (g + 2) / 2 = g / 2 + 1 := by omega
theorem pick {α : Type} {p : Nat → α → Prop} : ∀ (n : Nat), (∀ i, i < n → ∃ a, p i a) → ∃ l : List α, l.length = n ∧ ∀ (i : Nat) (h : i < l.length), p i l[i]
  | 0, _ => ⟨[], rfl, fun i h => absurd h (by simp)⟩
  | n + 1, H => by
    obtain ⟨l, hl, hp⟩ := pick n (fun i hi => H i (by omega))
    obtain ⟨a, ha⟩ := H n (by omega)
    refine ⟨l ++ [a], by simp [hl], fun i h => ?_⟩
    rcases Nat.lt_or_ge i l.length with hi | hi
    · rw [List.getElem_append_left hi]; exact hp i hi
    · have : i = n := by simp at h; omega
      subst this
      have e : (l ++ [a])[i]'h = a := by simp [← hl]
      rw [e]; exact ha
set_option maxRecDepth 100000 in
theorem open_node {H : Type} {enc : TypeId × Value → H} {W : World} : ∀ (m fuel : Nat), fuel ≤ m → ∀ {cs : List Value} {x : DataW H × List MemPlace}, DataW.trod enc Try.prog W 0 (fun _ => true) true fuel 106 cs = some x →
    ∃ (d : Nat) (t : T d) (c0 c1 c2 c3 : Value), d = fuel / 2 ∧ cs = [c0, c1, c2, c3] ∧ RdT (fun _ => True) W d t (.agg #[c0, c1, c2, c3])
  | 0, fuel, hf, cs, x, h => by
    obtain rfl : fuel = 0 := by omega
    simp [DataW.trod] at h
  | m + 1, fuel, hf, cs, x, h => by
    obtain ⟨xs, n, rfl, rfl, hl, hlen, hfd⟩ := DataW.trod_struct Try.underlying106 h
    have hc : Try.prog.cellsOf 106 = 4 := by kernel_rfl
    have cI : Try.prog.cellsOf 3 = 1 := by kernel_rfl
    have cL : Try.prog.cellsOf 2 = 1 := by kernel_rfl
    have c9 : Try.prog.cellsOf 9 = 1 := by kernel_rfl
    have cP : Try.prog.cellsOf 104 = 1 := by kernel_rfl
    rw [hc] at hl
    have f0 : DataW.trod enc Try.prog W 0 (fun _ => true) true n 3 ((cs.drop 0).take (Try.prog.cellsOf 3)) = xs[0]? := hfd 0 _ rfl
    have f1 : DataW.trod enc Try.prog W 0 (fun _ => true) true n 2 ((cs.drop 1).take (Try.prog.cellsOf 2)) = xs[1]? := hfd 1 _ rfl
    have f2 : DataW.trod enc Try.prog W 0 (fun _ => true) true n 9 ((cs.drop 2).take (Try.prog.cellsOf 9)) = xs[2]? := hfd 2 _ rfl
    have f3 : DataW.trod enc Try.prog W 0 (fun _ => true) true n 104 ((cs.drop 3).take (Try.prog.cellsOf 104)) = xs[3]? := hfd 3 _ rfl
    rw [cI] at f0
    rw [cL] at f1
    rw [c9] at f2
    rw [cP] at f3
    match cs, hl, xs, hlen with
    | [a, b, c, e], _, [y0, y1, y2, y3], _ =>
      simp only [List.drop_zero, List.take_succ_cons, List.take_zero, List.drop_succ_cons, List.getElem?_cons_zero, List.getElem?_cons_succ] at f0 f1 f2 f3
      obtain ⟨k, e0, rfl, _⟩ := DataW.trod_int Try.underlying3 f0
      obtain ⟨nn, e1, rfl, _⟩ := DataW.trod_int Try.underlying2 f1
      obtain ⟨s, e2, rfl, _⟩ := DataW.trod_string Try.underlying9 f2
      simp only [List.cons.injEq, and_true] at e0 e1 e2
      subst e0 e1 e2
      obtain ⟨g, rfl⟩ : ∃ g, n = g + 1 := by
        cases n with
        | zero => simp [DataW.trod] at f3
        | succ g => exact ⟨g, rfl⟩
      rcases DataW.trod_slice Try.underlying104 f3 with ⟨hcs, _⟩ | ⟨ad, len, cap, elems, rest, n', hn', hcs, _, _, hlc, hcm, hel, helt, _, _⟩
      · simp only [List.cons.injEq, and_true] at hcs
        subst hcs
        refine ⟨g / 2 + 1, mkT k nn s [], _, _, _, _, (half2 g).symm, rfl, rdT_mk.2 ⟨_, rfl, none, 0, rfl, by simp, by simp [maxLen], fun _ => rfl, fun x hx => by cases hx⟩⟩
      · obtain rfl : n' = g := by omega
        simp only [List.cons.injEq, and_true] at hcs
        subst hcs
        rw [hc] at helt
        have hall : ∀ i, i < len → ∃ q : T (n' / 2) × Value × Value × Value × Value, W.cells? 0 (ad.add (i * 4)) 4 = some [q.2.1, q.2.2.1, q.2.2.2.1, q.2.2.2.2] ∧ RdT (fun _ => True) W (n' / 2) q.1 (.agg #[q.2.1, q.2.2.1, q.2.2.2.1, q.2.2.2.2]) := by
          intro i hi
          have h1 := helt i hi
          rw [List.getElem?_eq_getElem (by omega)] at h1
          obtain ⟨cs', h2, h3⟩ := Option.bind_eq_some_iff.1 h1
          obtain ⟨d, t, c0, c1, c2, c3, rfl, rfl, hr⟩ := open_node m n' (by omega) h3
          exact ⟨(t, c0, c1, c2, c3), h2, hr⟩
        obtain ⟨l, hll, hfy⟩ := pick len hall
        refine ⟨n' / 2 + 1, mkT k nn s (l.map (fun q => q.1)), _, _, _, _, (half2 n').symm, rfl, rdT_mk.2 ⟨_, rfl, some ad, cap, by simp [hll], by simpa [hll] using hlc, hcm, by simp, ?_⟩⟩
        intro z hz i hi
        obtain rfl := Option.some.inj hz
        have hi' : i < l.length := by simpa using hi
        obtain ⟨g1, g2⟩ := hfy i hi'
        obtain ⟨_, _, hcell⟩ := World.cells?_some g1
        have k0 := hcell 0 (by omega)
        have k1 := hcell 1 (by omega)
        have k2 := hcell 2 (by omega)
        have k3 := hcell 3 (by omega)
        rw [Go.Deep.add_add] at k0 k1 k2 k3
        simp only [Nat.add_zero] at k0
        refine ⟨trivial, (l[i]).2.1, (l[i]).2.2.1, (l[i]).2.2.2.1, (l[i]).2.2.2.2, ?_, by simpa using k0, by simpa using k1, by simpa using k2, by simpa using k3⟩
        simp only [List.getElem_map]
        exact g2

end Go.Proofs.Ytbccdkhbplmknaa

/- The number that digits spell, as strconv.ParseInt tells it. Math alone. -/
namespace Go.Proofs.Ytbccdkhbplmknaa
open Go.RowKit Go.Lib
set_option linter.unusedSimpArgs false
set_option linter.unusedVariables false


end Go.Proofs.Ytbccdkhbplmknaa

/- What the document's level and Reserved do. -/
namespace Go.Proofs.Ytbccdkhbplmknaa
open Go.RowKit Go.Lib
set_option linter.unusedSimpArgs false
set_option linter.unusedVariables false
attribute [local go_sem ↓] Go.wp_at_zero Go.wp_at_succ

end Go.Proofs.Ytbccdkhbplmknaa

/- What Clean makes of a tree: memory. -/
namespace Go.Proofs.Ytbccdkhbplmknaa
open Go.RowKit
set_option linter.unusedSimpArgs false
set_option linter.unusedVariables false

/-- The slice v is the call's own, from block base on, and holds the trees l; their own memory lies apart. -/
def OwnN (w : World) (base : Nat) (v : Value) {d : Nat} (l : List (T d)) : Prop :=
  ∃ qs : List Q4, w.ownsRow base 106 4 v l.length (celsQ qs) ∧ qs.length = l.length ∧ ∀ (i : Nat) (h : i < l.length) (h' : i < qs.length), RdT (fun b => base ≤ b ∧ v.ownBlock ≠ some b) w d l[i] (.agg #[(qs[i]).1, (qs[i]).2.1, (qs[i]).2.2.1, (qs[i]).2.2.2])
/-- It stays where the blocks from base on that there are stay. -/
theorem OwnN.keep {w w' : World} {base : Nat} {v : Value} {d : Nat} {l : List (T d)} (h : OwnN w base v l) (hk : ∀ b, base ≤ b → b < w.heap.size → w'.heap[b]? = w.heap[b]?) : OwnN w' base v l := by
  obtain ⟨qs, ho, hl, hr⟩ := h
  refine ⟨qs, ownsRow_keep ho (fun g hg => ?_), hl, fun i h h' => RdT.keep (fun b hb hlt => ⟨hb, hk b hb.1 hlt⟩) (hr i h h')⟩
  obtain ⟨a, b⟩ := ownsRow_lt ho g hg
  exact hk g a b
theorem OwnN.below {w w' : World} {base : Nat} {v : Value} {d : Nat} {l : List (T d)} (h : OwnN w base v l) (hb : Below w.heap.size w w') : OwnN w' base v l := h.keep (fun b _ hlt => hb.block b hlt)
theorem OwnN.set {w : World} {base : Nat} {v : Value} {d : Nat} {l : List (T d)} (h : OwnN w base v l) {X i : Nat} (hX : X < base) (u : Value) : OwnN (w.setCell ⟨X, i, none⟩ u) base v l :=
  h.keep (fun b hb _ => Below.heap_setCell _ _ _ _ (fun e => by have : b = X := e; omega))
theorem OwnN.snoc {w w' : World} {base g cap lo n : Nat} {v : Value} {d : Nat} {l : List (T d)} {p : T d} {c0 c1 c2 c3 : Value} {qs : List Q4}
    (hn : l.length = n) (ho : w.ownsRow base 106 4 v n (celsQ qs)) (hl : qs.length = l.length) (hr : ∀ (i : Nat) (h : i < l.length) (h' : i < qs.length), RdT (fun b => base ≤ b ∧ v.ownBlock ≠ some b) w d l[i] (.agg #[(qs[i]).1, (qs[i]).2.1, (qs[i]).2.2.1, (qs[i]).2.2.2]))
    (ho' : w'.ownsRow base 106 4 (.slice (some ⟨g, 0, none⟩) (n + 1) cap) (n + 1) (celsQ qs ++ [c0, c1, c2, c3])) (hg : w.grownBy w' v.ownBlock) (hat : v.ownBlock = some g ∨ g = w.heap.size)
    (hp : RdT (fun b => lo ≤ b) w d p (.agg #[c0, c1, c2, c3])) (hlo : base ≤ lo) (hv : ∀ x, v.ownBlock = some x → x < lo) : OwnN w' base (.slice (some ⟨g, 0, none⟩) (n + 1) cap) (l ++ [p]) := by
  subst hn
  have key : ∀ b, base ≤ b ∧ v.ownBlock ≠ some b → b < w.heap.size → (base ≤ b ∧ (Value.slice (some ⟨g, 0, none⟩) (l.length + 1) cap).ownBlock ≠ some b) ∧ w'.heap[b]? = w.heap[b]? := fun b hb hlt => by
    refine ⟨⟨hb.1, ?_⟩, hg.block b hlt (fun e => hb.2 e.symm)⟩
    simp only [Value.ownBlock, ne_eq, Option.some.injEq]
    rintro rfl
    rcases hat with h | h
    · exact hb.2 h
    · omega
  refine ⟨qs ++ [(c0, c1, c2, c3)], ?_, by simp [hl], fun i h h' => ?_⟩
  · rw [celsQ_snoc, List.length_append]
    exact ho'
  · rcases Nat.lt_or_ge i l.length with hi | hi
    · rw [List.getElem_append_left hi, List.getElem_append_left (by omega)]
      exact RdT.keep key (hr i hi (by omega))
    · have : i = l.length := by simp at h; omega
      subst this
      have e1 : (l ++ [p])[l.length] = p := by simp
      have e2 : (qs ++ [(c0, c1, c2, c3)])[l.length]'h' = (c0, c1, c2, c3) := by simp [← hl]
      rw [e1, e2]
      exact RdT.keep (fun b hb hlt => key b ⟨by omega, fun e => by have := hv b e; omega⟩ hlt) hp
theorem OwnN.form {w : World} {base : Nat} {v : Value} {d : Nat} {l : List (T d)} (h : OwnN w base v l) : ∃ a cap, v = .slice a l.length cap := by
  obtain ⟨qs, ho, _⟩ := h
  rcases ho.2 with ⟨h1, h2⟩ | ⟨g, cap, cur, h1, _⟩
  · exact ⟨none, 0, by rw [h1, h2]⟩
  · exact ⟨_, _, h1⟩
/-- It reads as the trees. -/
theorem OwnN.rd {w : World} {base : Nat} {v : Value} {d : Nat} {l : List (T d)} (h : OwnN w base v l) : RdP (fun b => base ≤ b) w (RdT (fun b => base ≤ b) w d) l v := by
  obtain ⟨qs, ho, hl, hr⟩ := h
  have hc := fun g => World.ownsRow.cells ho (g := g)
  rcases ho.2 with ⟨rfl, hn⟩ | ⟨g, cap, cur, rfl, hb, hg, hnc, hcm, hcs, htake⟩
  · have hx : l = [] := List.eq_nil_of_length_eq_zero hn
    subst hx
    exact ⟨none, 0, rfl, by simp, by simp [maxLen], by simp, fun x hx => by cases hx⟩
  · refine ⟨some ⟨g, 0, none⟩, cap, rfl, hnc, hcm, by simp, ?_⟩
    intro x hx i hi
    obtain rfl := Option.some.inj hx
    obtain ⟨h0, h1, h2, h3⟩ := celsQ_at qs i (by omega)
    exact ⟨hb, _, _, _, _, RdT.keep (fun b hb _ => ⟨hb.1, rfl⟩) (hr i hi (by omega)), hc g rfl _ _ h0, hc g rfl _ _ h1, hc g rfl _ _ h2, hc g rfl _ _ h3⟩
theorem OwnN.base {w : World} {base lo : Nat} {d : Nat} {l : List (T d)} {v : Value} (h : RdP (fun b => base ≤ b) w (RdT (fun b => base ≤ b) w d) l v) (hlo : lo ≤ base) : RdP (fun b => lo ≤ b) w (RdT (fun b => lo ≤ b) w d) l v :=
  h.keep (fun x _ u hu => RdT.keep (fun b hb _ => ⟨by omega, rfl⟩) hu) (fun b hb _ => ⟨by omega, rfl⟩)
end Go.Proofs.Ytbccdkhbplmknaa

/- The document's reader in memory; what its is and fail do. -/
namespace Go.Proofs.Ytbccdkhbplmknaa
open Go.RowKit Go.Lib
set_option linter.unusedSimpArgs false
set_option linter.unusedVariables false
attribute [local go_sem ↓] Go.wp_at_zero Go.wp_at_succ


def RdX (ok : Nat → Prop) (w : World) (x : Sx) (v : Value) : Prop := RdT ok w x.1 x.2 v
/-- It stays, where the blocks that it may lie in stay. -/
theorem RdX.keep {ok ok' : Nat → Prop} {w w' : World} {x : Sx} {v : Value} (h : RdX ok w x v) (hk : ∀ b, ok b → b < w.heap.size → ok' b ∧ w'.heap[b]? = w.heap[b]?) : RdX ok' w' x v := RdT.keep hk h
/-- Its four cells. -/
theorem RdX.form {ok : Nat → Prop} {w : World} {x : Sx} {v : Value} (h : RdX ok w x v) : ∃ k n s a m c, v = .agg #[.int .i64 k, .int .i64 n, .string s, .slice a m c] := by
  obtain ⟨d, t⟩ := x
  match d, t, h with
  | 0, t, _ => exact Empty.elim t
  | d + 1, t, h =>
    obtain ⟨k, n, s, ps, rfl⟩ := T.open t
    obtain ⟨sl, rfl, a, cap, rfl, _⟩ := rdT_mk.1 h
    exact ⟨k, n, s, a, _, cap, rfl⟩
end Go.Proofs.Ytbccdkhbplmknaa

/- Nothing of it is needed here. -/
namespace Go.Proofs.Ytbccdkhbplmknaa
end Go.Proofs.Ytbccdkhbplmknaa

/- What the document's Letter, digit, inside, next, run and Name do. -/
namespace Go.Proofs.Ytbccdkhbplmknaa
open Go.RowKit Go.Lib
set_option linter.unusedSimpArgs false
set_option linter.unusedVariables false




end Go.Proofs.Ytbccdkhbplmknaa

/- What the document's primary does. -/
namespace Go.Proofs.Ytbccdkhbplmknaa
open Go.RowKit Go.Lib
set_option linter.unusedSimpArgs false
set_option linter.unusedVariables false
attribute [local go_sem ↓] Go.wp_at_zero Go.wp_at_succ

theorem B4.fx {X N : Nat} {w w' : World} {a b c e : Value} (h : B4 w N a b c e) (hf : Fx X w w') (hN : N ≠ X) : B4 w' N a b c e := by
  have hb : w'.heap[N]? = w.heap[N]? := hf.block N h.lt (fun q => hN (Option.some.inj q))
  have hc : ∀ i, w'.cell? ⟨N, i, none⟩ = w.cell? ⟨N, i, none⟩ := fun i => World.cell?_of_block (w := w) (a := ⟨N, i, none⟩) hb
  have hz : ∀ i, w'.frozen? ⟨N, i, none⟩ = w.frozen? ⟨N, i, none⟩ := fun i => World.frozen?_of_block (w := w) (a := ⟨N, i, none⟩) hb
  exact ⟨(hc 0).trans h.c0, (hc 1).trans h.c1, (hc 2).trans h.c2, (hc 3).trans h.c3, (hz 0).trans h.f0, (hz 1).trans h.f1, (hz 2).trans h.f2, (hz 3).trans h.f3⟩
theorem Fx.put4 {X N : Nat} {a b : World} (h : Fx X a b) (hN : a.heap.size ≤ N) (c0 c1 c2 c3 : Value) : Fx X a (put4 b N c0 c1 c2 c3) := (((h.setN hN c0).setN hN c1).setN hN c2).setN hN c3

end Go.Proofs.Ytbccdkhbplmknaa
