import Derived.Test.YtiddccohldjjcaaGreatDoorRows
import Derived.Test.YtiddccohldjjcaaGreatDoorWh16
import Derived.Deep.Slices
import Derived.ProofKit
import Derived.OpenShut
import Derived.ShutString
import Derived.ChangeOld
import Derived.SizedLaws
import Derived.Below
import Derived.Test.YtiddccohldjjcaaGreatDoorWh12
import Derived.Test.YtiddccohldjjcaaGreatDoorWh15
import Derived.Deep.RegionHeld

/- Arguments that are trees of nodes, or lists of variables, opened. -/
namespace Go.Proofs.YtiddccohldjjcaaGreatDoor
open Go.ChangeShapes Go.WideShapes Go.ChangeAt Go.RowKit
set_option linter.unusedSimpArgs false
set_option linter.unusedVariables false

theorem half2 (g : Nat) : (g + 2) / 2 = g / 2 + 1 := by omega
theorem pick {α : Type} {p : Nat → α → Prop} : ∀ (n : Nat), (∀ i, i < n → ∃ a, p i a) → ∃ l : List α, l.length = n ∧ ∀ (i : Nat) (h : i < l.length), p i l[i]
  | 0, _ => ⟨[], rfl, fun i h => absurd h (by simp)⟩
  | n + 1, H => by
    obtain ⟨l, hl, hp⟩ := pick n (fun i hi => H i (by omega))
    obtain ⟨a, ha⟩ := H n (by omega)
    refine ⟨l ++ [a], by simp [hl], fun i h => ?_⟩
    rcases Nat.lt_or_ge i l.length with hi | hi
    · rw [List.getElem_append_left hi]; exact hp i hi
    · have : i = n := by simp at h; omega
      subst this
      have e : (l ++ [a])[i]'h = a := by simp [← hl]
      rw [e]; exact ha
set_option maxRecDepth 100000 in
theorem open_node {H : Type} {enc : TypeId × Value → H} {W : World} : ∀ (m fuel : Nat), fuel ≤ m → ∀ {cs : List Value} {x : DataW H × List MemPlace}, DataW.trod enc Tryz.prog W 0 (fun _ => true) true fuel 24 cs = some x →
    ∃ (d : Nat) (t : T d) (c0 c1 c2 c3 : Value), d = fuel / 2 ∧ cs = [c0, c1, c2, c3] ∧ RdT (fun _ => True) W d t (.agg #[c0, c1, c2, c3])
  | 0, fuel, hf, cs, x, h => by
    obtain rfl : fuel = 0 := by omega
    simp [DataW.trod] at h
  | m + 1, fuel, hf, cs, x, h => by
    obtain ⟨xs, n, rfl, rfl, hl, hlen, hfd⟩ := DataW.trod_struct Tryz.underlying24 h
    have hc : Tryz.prog.cellsOf 24 = 4 := by kernel_rfl
    have cI : Tryz.prog.cellsOf 3 = 1 := by kernel_rfl
    have cL : Tryz.prog.cellsOf 2 = 1 := by kernel_rfl
    have c9 : Tryz.prog.cellsOf 9 = 1 := by kernel_rfl
    have cP : Tryz.prog.cellsOf 22 = 1 := by kernel_rfl
    rw [hc] at hl
    have f0 : DataW.trod enc Tryz.prog W 0 (fun _ => true) true n 3 ((cs.drop 0).take (Tryz.prog.cellsOf 3)) = xs[0]? := hfd 0 _ rfl
    have f1 : DataW.trod enc Tryz.prog W 0 (fun _ => true) true n 2 ((cs.drop 1).take (Tryz.prog.cellsOf 2)) = xs[1]? := hfd 1 _ rfl
    have f2 : DataW.trod enc Tryz.prog W 0 (fun _ => true) true n 9 ((cs.drop 2).take (Tryz.prog.cellsOf 9)) = xs[2]? := hfd 2 _ rfl
    have f3 : DataW.trod enc Tryz.prog W 0 (fun _ => true) true n 22 ((cs.drop 3).take (Tryz.prog.cellsOf 22)) = xs[3]? := hfd 3 _ rfl
    rw [cI] at f0
    rw [cL] at f1
    rw [c9] at f2
    rw [cP] at f3
    match cs, hl, xs, hlen with
    | [a, b, c, e], _, [y0, y1, y2, y3], _ =>
      simp only [List.drop_zero, List.take_succ_cons, List.take_zero, List.drop_succ_cons, List.getElem?_cons_zero, List.getElem?_cons_succ] at f0 f1 f2 f3
      obtain ⟨k, e0, rfl, _⟩ := DataW.trod_int Tryz.underlying3 f0
      obtain ⟨nn, e1, rfl, _⟩ := DataW.trod_int Tryz.underlying2 f1
      obtain ⟨s, e2, rfl, _⟩ := DataW.trod_string Tryz.underlying9 f2
      simp only [List.cons.injEq, and_true] at e0 e1 e2
      subst e0 e1 e2
      obtain ⟨g, rfl⟩ : ∃ g, n = g + 1 := by
        cases n with
        | zero => simp [DataW.trod] at f3
        | succ g => exact ⟨g, rfl⟩
      rcases DataW.trod_slice Tryz.underlying22 f3 with ⟨hcs, _⟩ | ⟨ad, len, cap, elems, rest, n', hn', hcs, _, _, hlc, hcm, hel, helt, _, _⟩
      · simp only [List.cons.injEq, and_true] at hcs
        subst hcs
        refine ⟨g / 2 + 1, mkT k nn s [], _, _, _, _, (half2 g).symm, rfl, rdT_mk.2 ⟨_, rfl, none, 0, rfl, by simp, by simp [maxLen], fun _ => rfl, fun x hx => by cases hx⟩⟩
      · obtain rfl : n' = g := by omega
        simp only [List.cons.injEq, and_true] at hcs
        subst hcs
        rw [hc] at helt
        have hall : ∀ i, i < len → ∃ q : T (n' / 2) × Value × Value × Value × Value, W.cells? 0 (ad.add (i * 4)) 4 = some [q.2.1, q.2.2.1, q.2.2.2.1, q.2.2.2.2] ∧ RdT (fun _ => True) W (n' / 2) q.1 (.agg #[q.2.1, q.2.2.1, q.2.2.2.1, q.2.2.2.2]) := by
          intro i hi
          have h1 := helt i hi
          rw [List.getElem?_eq_getElem (by omega)] at h1
          obtain ⟨cs', h2, h3⟩ := Option.bind_eq_some_iff.1 h1
          obtain ⟨d, t, c0, c1, c2, c3, rfl, rfl, hr⟩ := open_node m n' (by omega) h3
          exact ⟨(t, c0, c1, c2, c3), h2, hr⟩
        obtain ⟨l, hll, hfy⟩ := pick len hall
        refine ⟨n' / 2 + 1, mkT k nn s (l.map (fun q => q.1)), _, _, _, _, (half2 n').symm, rfl, rdT_mk.2 ⟨_, rfl, some ad, cap, by simp [hll], by simpa [hll] using hlc, hcm, by simp, ?_⟩⟩
        intro z hz i hi
        obtain rfl := Option.some.inj hz
        have hi' : i < l.length := by simpa using hi
        obtain ⟨g1, g2⟩ := hfy i hi'
        obtain ⟨_, _, hcell⟩ := World.cells?_some g1
        have k0 := hcell 0 (by omega)
        have k1 := hcell 1 (by omega)
        have k2 := hcell 2 (by omega)
        have k3 := hcell 3 (by omega)
        rw [Go.Deep.add_add] at k0 k1 k2 k3
        simp only [Nat.add_zero] at k0
        refine ⟨trivial, (l[i]).2.1, (l[i]).2.2.1, (l[i]).2.2.2.1, (l[i]).2.2.2.2, ?_, by simpa using k0, by simpa using k1, by simpa using k2, by simpa using k3⟩
        simp only [List.getElem_map]
        exact g2

/-- A tree that came in. -/
theorem open_tree {H : Type} {enc : TypeId × Value → H} {W : World} {v : Value} {x : DataW H} {p : List MemPlace} (hv : ∃ cs, v = .agg cs)
    (h : DataW.Trod enc Tryz.prog W 0 (fun _ => true) true 24 v x p) : ∃ (d : Nat) (t : T d), RdT (fun _ => True) W d t v := by
  obtain ⟨cs, rfl⟩ := hv
  obtain ⟨fuel, hf⟩ := h
  obtain ⟨d, t, c0, c1, c2, c3, _, hcs, hr⟩ := open_node fuel fuel (Nat.le_refl _) hf
  refine ⟨d, t, ?_⟩
  have e : cs = #[c0, c1, c2, c3] := by
    have : cs.toList = [c0, c1, c2, c3] := hcs
    exact Array.toList_inj.1 (by rw [this])
  rw [e]
  exact hr
end Go.Proofs.YtiddccohldjjcaaGreatDoor

/- GuardBack: the walk. -/
namespace Go.Proofs.YtiddccohldjjcaaGreatDoor
open Go.RowKit Go.Lib
set_option linter.unusedSimpArgs false
set_option linter.unusedVariables false
attribute [local go_sem ↓] Go.wp_at_zero Go.wp_at_succ
theorem bl_arr (l : List UInt8) : bl ⟨l.toArray⟩ = l := rfl
set_option maxRecDepth 100000 in
set_option maxHeartbeats 4000000 in
theorem guardBack_walk {w : World} (hw : Pow w) {d : Nat} {t : T d} {v : Value} (h : RdT (fun _ => True) w d t v) :
    Calls Tryz.prog 4 #[v] w fun r w' => r = .returned (.bool true) ∧ Below w.heap.size w w' := by
  match d, t, h with
  | 0, t, _ => exact Empty.elim t
  | d + 1, t, h =>
  obtain ⟨k, n, s, ps, rfl⟩ := T.open t
  have h0 := h
  obtain ⟨sl, rfl, _⟩ := rdT_mk.1 h
  clear h
  have bb := (Below.refl w.heap.size w).alloc (Nat.le_refl _) (.cells #[.int .i64 k, .int .i64 n, .string s, sl] 24)
  have hA := At4.new w (.int .i64 k) (.int .i64 n) (.string s) sl 24
  have h1 := fun w1 => awakeG w1
  have h2 := fun w1 (b : Below w.heap.size w w1) => refSmallTop_any (RdT.below b (Nat.le_refl _) h0)
  by_cases hsm : 0 ≤ sml (d + 1) (mkT k n s ps) 0 200
  case neg =>
    simp only [decide_eq_false hsm] at h2
    clear hsm
    have s1 := h1 (w.alloc (.cells #[.int .i64 k, .int .i64 n, .string s, sl] 24))
    go_enter Tryz.func4, Tryz.ntmps4
    go_wp2_with (first
      | (go_at_call 6; refine s1.mono ?_; rintro r wn ⟨rfl, bn⟩; have bb := bthen bb bn; have hA := hA.on bn; obtain ⟨y0, y1, y2, y3⟩ := id hA; have s2 := h2 wn bb; clear s1)
      | (go_at_call 7; refine s2.mono ?_; rintro r wn ⟨rfl, bn⟩; have bb := bthen bb bn; have hA := hA.on bn; obtain ⟨y0, y1, y2, y3⟩ := id hA; have s3 := h1 wn; clear s2)
      | (go_at_call 6; refine s3.mono ?_; rintro r wn ⟨rfl, bn⟩; have bb := bthen bb bn; clear s3))
    go_ret
    exact ⟨rfl, bb⟩
  simp only [decide_eq_true hsm] at h2
  obtain ⟨hc1, hsh⟩ := small_cln hsm
  have hcl := cl_cln (d + 1) (mkT k n s ps)
  have h5 := fun w1 (b : Below w.heap.size w w1) => theirs_any (d + 1) _ _ _ w1 (RdT.below b (Nat.le_refl _) h0)
  have h6 := fun w1 hp => printP w1 hcl hc1 hsh hp
  rw [exV_cln] at h6
  obtain ⟨ex, hex⟩ : ∃ ex, exV (d + 1) (mkT k n s ps) = ex := ⟨_, rfl⟩
  have hfo : ex = .nilIface ∨ ∃ u y, ex = .iface u y := by rw [← hex]; exact exV_form _ _
  have e0 := exV_cln (d + 1) (mkT k n s ps)
  simp only [hex] at h5 h6 e0
  clear hex
  by_cases hfp : fmC (d + 2) (cln (d + 1) (mkT k n s ps)) = true ∧ plC (d + 2) (cln (d + 1) (mkT k n s ps)) = true
  case neg =>
    unfold prC at h6
    simp only [if_neg hfp] at h6
    have s1 := h1 (w.alloc (.cells #[.int .i64 k, .int .i64 n, .string s, sl] 24))
    clear hsm hfp e0 hcl hc1 hsh
    rcases hfo with rfl | ⟨u, y, rfl⟩
    all_goals
      go_enter Tryz.func4, Tryz.ntmps4
      go_wp2_with (first
        | (go_at_call 6; refine s1.mono ?_; rintro r wn ⟨rfl, bn⟩; have bb := bthen bb bn; have hA := hA.on bn; obtain ⟨y0, y1, y2, y3⟩ := id hA; have s2 := h2 wn bb; clear s1)
        | (go_at_call 7; refine s2.mono ?_; rintro r wn ⟨rfl, bn⟩; have bb := bthen bb bn; have hA := hA.on bn; obtain ⟨y0, y1, y2, y3⟩ := id hA; have s3 := h5 wn bb; clear s2)
        | (go_at_call 9; refine s3.mono ?_; rintro r wn ⟨rfl, bn⟩; have bb := bthen bb bn; have hA := hA.on bn; obtain ⟨y0, y1, y2, y3⟩ := id hA; have s4 := h6 wn (hw.below bb); clear s3)
        | (go_at_call 8; refine s4.mono ?_; rintro r wn ⟨rfl, bn⟩; have bb := bthen bb bn; have hA := hA.on bn; clear s4))
      go_ret
      exact ⟨rfl, bb⟩
  obtain ⟨x, hx, ha⟩ := parse_printed hcl hfp.1 hfp.2
  have hln := txt_len hcl hfp.1 hfp.2
  unfold prC at h6
  simp only [if_pos hfp] at h6
  have h7 := fun w1 => pParse_any ⟨(txtC (d + 2) (cln (d + 1) (mkT k n s ps))).toArray⟩ w1 (Nat.le_trans hln (by decide))
  simp only [bl_arr, hx] at h7
  have hsame : samC x.1 (d + 2) x.2 (cln (d + 1) (mkT k n s ps)) = true := sam_of (y := ⟨d + 2, cln (d + 1) (mkT k n s ps)⟩) (ha.1 _ _)
  have hxp := parse_fine (s := txtC (d + 2) (cln (d + 1) (mkT k n s ps))) (by rw [hx])
  rw [hx] at hxp
  have h8 := fun w1 => sameP x.1 (d + 2) x.2 (cln (d + 1) (mkT k n s ps)) w1 hxp.1.cl hcl (Nat.le_trans (fm_parts hxp.2).1 (by decide)) (Nat.le_trans hc1 (by decide))
  simp only [hsame, e0] at h8
  generalize (⟨(txtC (d + 2) (cln (d + 1) (mkT k n s ps))).toArray⟩ : ByteArray) = tx at *
  have hfx := exX_form x
  simp only [show exV x.1 x.2 = exX x from rfl] at h8
  generalize exX x = xv at *
  have s1 := h1 (w.alloc (.cells #[.int .i64 k, .int .i64 n, .string s, sl] 24))
  clear hsm hfp e0 hcl hc1 hsh hsame hxp ha hx hln
  rcases hfo with rfl | ⟨u, y, rfl⟩ <;> rcases hfx with rfl | ⟨u', y', rfl⟩
  all_goals
    go_enter Tryz.func4, Tryz.ntmps4
    go_wp2_with (first
      | (go_at_call 6; refine s1.mono ?_; rintro r wn ⟨rfl, bn⟩; have bb := bthen bb bn; have hA := hA.on bn; obtain ⟨y0, y1, y2, y3⟩ := id hA; have s2 := h2 wn bb; clear s1)
      | (go_at_call 7; refine s2.mono ?_; rintro r wn ⟨rfl, bn⟩; have bb := bthen bb bn; have hA := hA.on bn; obtain ⟨y0, y1, y2, y3⟩ := id hA; have s3 := h5 wn bb; clear s2)
      | (go_at_call 9; refine s3.mono ?_; rintro r wn ⟨rfl, bn⟩; have bb := bthen bb bn; have hA := hA.on bn; obtain ⟨y0, y1, y2, y3⟩ := id hA; have s4 := h6 wn (hw.below bb); clear s3)
      | (go_at_call 8; refine s4.mono ?_; rintro r wn ⟨rfl, bn⟩; have bb := bthen bb bn; have hA := hA.on bn; obtain ⟨y0, y1, y2, y3⟩ := id hA; have s5 := h7 wn; clear s4)
      | (go_at_call 14; refine s5.mono ?_; rintro r wn ⟨rfl, bn⟩; have bb := bthen bb bn; have hA := hA.on bn; obtain ⟨y0, y1, y2, y3⟩ := id hA; have s6 := h5 wn bb; clear s5)
      | (go_at_call 9; refine s6.mono ?_; rintro r wn ⟨rfl, bn⟩; have bb := bthen bb bn; have hA := hA.on bn; obtain ⟨y0, y1, y2, y3⟩ := id hA; have s7 := h8 wn; clear s6)
      | (go_at_call 15; refine s7.mono ?_; rintro r wn ⟨rfl, bn⟩; have bb := bthen bb bn; clear s7))
    go_ret
    exact ⟨rfl, bb⟩
end Go.Proofs.YtiddccohldjjcaaGreatDoor

/- GuardAgain: the walk. -/
namespace Go.Proofs.YtiddccohldjjcaaGreatDoor
open Go.RowKit Go.Lib
set_option linter.unusedSimpArgs false
set_option linter.unusedVariables false
attribute [local go_sem ↓] Go.wp_at_zero Go.wp_at_succ
set_option maxRecDepth 100000 in
set_option maxHeartbeats 4000000 in
theorem few_anyG (s : ByteArray) (w : World) : Calls Tryz.prog 16 #[.string s] w fun e w' => e = .returned (.bool (decide (s.size ≤ 12000))) ∧ w' = w := by
  by_cases h : s.size ≤ 12000
  · have h' : ((s.size : Nat) : Int) ≤ 12000 := by omega
    rw [decide_eq_true h]
    go_enter Tryz.func16, Tryz.ntmps16
    go_wp2
    go_ret
    simp [h']
  · have h' : ¬ ((s.size : Nat) : Int) ≤ 12000 := by omega
    rw [decide_eq_false h]
    go_enter Tryz.func16, Tryz.ntmps16
    go_wp2
    go_ret
    simp [h']
theorem bl_arrG (l : List UInt8) : bl ⟨l.toArray⟩ = l := rfl
set_option maxRecDepth 100000 in
set_option maxHeartbeats 4000000 in
theorem guardAgain_walk {w : World} (hw : Pow w) (s : ByteArray) (hs : s.size ≤ 140737488351232) :
    Calls Tryz.prog 5 #[.string s] w fun r w' => r = .returned (.bool true) ∧ Below w.heap.size w w' := by
  have h1 := fun w1 => awakeG w1
  have h0 := fun w1 => few_anyG s w1
  have h2 := fun w1 => pParse_any s w1 hs
  have s1 := h1 w
  by_cases hfew : s.size ≤ 12000
  case neg =>
    simp only [decide_eq_false hfew] at h0
    clear hfew
    go_enter Tryz.func5, Tryz.ntmps5
    go_wp2_with (first
      | (go_at_call 6; refine s1.mono ?_; rintro e w1 ⟨rfl, b1⟩; have s2 := h1 w1; clear s1)
      | (go_at_call 16; refine (h0 _).mono ?_; rintro e w2 ⟨rfl, rfl⟩)
      | (go_at_call 6; refine s2.mono ?_; rintro e w3 ⟨rfl, b3⟩; clear s2))
    go_ret
    exact ⟨rfl, bthen b1 b3⟩
  simp only [decide_eq_true hfew] at h0
  by_cases her : (parseC (bl s)).2 = 0
  case neg =>
    have hno := parse_no her
    rw [hno] at h2
    have e0 : exX noX = .nilIface := rfl
    simp only [e0] at h2
    generalize (parseC (bl s)).2 = er at *
    clear hno e0
    go_enter Tryz.func5, Tryz.ntmps5
    go_wp2_with (first
      | (go_at_call 6; refine s1.mono ?_; rintro e w1 ⟨rfl, b1⟩; clear s1)
      | (go_at_call 16; refine (h0 _).mono ?_; rintro e w2 ⟨rfl, rfl⟩)
      | (go_at_call 14; refine (h2 _).mono ?_; rintro e w3 ⟨rfl, b3⟩; have b3' := bthen b1 b3))
    go_ret
    exact ⟨rfl, b3'⟩
  obtain ⟨hfi, hfm⟩ := parse_fine her
  obtain ⟨X, hX⟩ : ∃ X, parseC (bl s) = X := ⟨_, rfl⟩
  rw [hX] at her hfi hfm
  simp only [hX, her] at h2
  clear hX her
  obtain ⟨⟨d, t⟩, no⟩ := X
  have hcl : Cl d t := hfi.cl
  have hpl : plC d t = true := hfi.pl
  have hfm : fmC d t = true := hfm
  have hsh : shrt 1000 d t = true := hfi.sh
  have h40 := (fm_parts hfm).1
  have h3 := fun w1 hp => printP w1 hcl (by omega) hsh hp
  unfold prC at h3
  simp only [if_pos (show fmC d t = true ∧ plC d t = true from ⟨hfm, hpl⟩)] at h3
  have hln := txt_len hcl hfm hpl
  obtain ⟨y, hy, hya⟩ := parse_printed hcl hfm hpl
  obtain ⟨z, hz, hza⟩ := parse_par hcl hfm hpl
  have h4 := fun w1 => pParse_any ⟨(txtC d t).toArray⟩ w1 (Nat.le_trans hln (by decide))
  have h5 := fun w1 => pParse_any ⟨(40 :: (txtC d t ++ [41])).toArray⟩ w1 (by show (40 :: (txtC d t ++ [41])).length ≤ _; simp only [List.length_cons, List.length_append, List.length_nil]; omega)
  simp only [bl_arrG, hy] at h4
  simp only [bl_arrG, hz] at h5
  have a1 := add_ok ⟨#[40]⟩ ⟨(txtC d t).toArray⟩ ⟨(40 :: txtC d t).toArray⟩ (by show 1 + (txtC d t).length ≤ _; omega) rfl
  have a2 := add_ok ⟨(40 :: txtC d t).toArray⟩ ⟨#[41]⟩ ⟨(40 :: (txtC d t ++ [41])).toArray⟩ (by show (txtC d t).length + 1 + 1 ≤ _; omega) rfl
  have hyp := parse_fine (s := txtC d t) (by rw [hy])
  rw [hy] at hyp
  have hzp := parse_fine (s := 40 :: (txtC d t ++ [41])) (by rw [hz])
  rw [hz] at hzp
  have sy : samC d y.1 t y.2 = true := sam_of (x := ⟨d, t⟩) (hya.1 _ _).symm
  have sz : samC d z.1 t z.2 = true := sam_of (x := ⟨d, t⟩) (hza.1 _ _).symm
  have h6 := fun w1 => sameP d y.1 t y.2 w1 hcl hyp.1.cl (Nat.le_trans h40 (by decide)) (Nat.le_trans (fm_parts hyp.2).1 (by decide))
  have h7 := fun w1 => sameP d z.1 t z.2 w1 hcl hzp.1.cl (Nat.le_trans h40 (by decide)) (Nat.le_trans (fm_parts hzp.2).1 (by decide))
  simp only [sy] at h6
  simp only [sz] at h7
  have fx := exV_form d t
  have fy := exX_form y
  have fz := exX_form z
  simp only [show exV y.1 y.2 = exX y from rfl] at h6
  simp only [show exV z.1 z.2 = exX z from rfl] at h7
  simp only [show exX ⟨d, t⟩ = exV d t from rfl] at h2
  generalize exX y = yv at *
  generalize exX z = zv at *
  generalize exV d t = xv at *
  generalize (⟨(40 :: (txtC d t ++ [41])).toArray⟩ : ByteArray) = tz at *
  generalize (⟨(40 :: txtC d t).toArray⟩ : ByteArray) = ty at *
  generalize (⟨(txtC d t).toArray⟩ : ByteArray) = tx at *
  clear hfi hcl hpl hfm hsh h40 hln hy hz hya hza hyp hzp sy sz hfew hs
  rcases fx with rfl | ⟨u1, x1, rfl⟩ <;> rcases fy with rfl | ⟨u2, x2, rfl⟩ <;> rcases fz with rfl | ⟨u3, x3, rfl⟩
  all_goals
    go_enter Tryz.func5, Tryz.ntmps5
    go_wp2_with (first
      | (go_at_call 6; refine s1.mono ?_; rintro e w1 ⟨rfl, b1⟩; clear s1)
      | (go_at_call 16; refine (h0 _).mono ?_; rintro e w2 ⟨rfl, rfl⟩; have s2 := h2 w2)
      | (go_at_call 14; refine s2.mono ?_; rintro e wn ⟨rfl, bn⟩; have bb := bthen b1 bn; have s3 := h3 wn (hw.below bb); clear s2)
      | (go_at_call 8; refine s3.mono ?_; rintro e wn ⟨rfl, bn⟩; have bb := bthen bb bn; have s4 := h4 wn; clear s3)
      | (go_at_call 14; refine s4.mono ?_; rintro e wn ⟨rfl, bn⟩; have bb := bthen bb bn; have s5 := h5 wn; clear s4)
      | (go_at_call 14; refine s5.mono ?_; rintro e wn ⟨rfl, bn⟩; have bb := bthen bb bn; have s6 := h6 wn; clear s5)
      | (go_at_call 15; refine s6.mono ?_; rintro e wn ⟨rfl, bn⟩; have bb := bthen bb bn; have s7 := h7 wn; clear s6)
      | (go_at_call 15; refine s7.mono ?_; rintro e wn ⟨rfl, bn⟩; have bb := bthen bb bn; clear s7))
    go_ret
    exact ⟨rfl, bb⟩
end Go.Proofs.YtiddccohldjjcaaGreatDoor
