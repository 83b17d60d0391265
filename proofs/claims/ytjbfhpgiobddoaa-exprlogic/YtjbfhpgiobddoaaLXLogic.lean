/- The walk of ExprLogic, of what is asked of the program's calls. -/
import Derived.Test.YtjbfhpgiobddoaaExP
import Derived.Test.YtjbfhpgiobddoaaExQ
import Derived.Test.YtjbfhpgiobddoaaExA
import Derived.Test.YtjbfhpgiobddoaaFew
import Derived.Deep.RegionHeld
import Derived.Deep.DrawnRows
namespace Go.Proofs.Ytjbfhpgiobddoaa
open Go.RowKit Go.Lib
set_option linter.unusedSimpArgs false
set_option linter.unusedVariables false
attribute [local go_sem ↓] Go.wp_at_zero Go.wp_at_succ

theorem size2 (a b : UInt8) : (⟨#[a, b]⟩ : ByteArray).size = 2 := rfl
/-- A block of three cells, one of one. -/
def At3 (w : World) (X : Nat) (a b c : Value) : Prop := w.cell? ⟨X, 0, none⟩ = some a ∧ w.cell? ⟨X, 1, none⟩ = some b ∧ w.cell? ⟨X, 2, none⟩ = some c
theorem At3.on {w w' : World} {X : Nat} {a b c : Value} (h : At3 w X a b c) (hb : Below w.heap.size w w') : At3 w' X a b c := by
  have hX : X < w.heap.size := World.block_lt_of_cell? w _ h.1
  refine ⟨?_, ?_, ?_⟩
  · rw [hb.cell (p := ⟨X, 0, none⟩) hX]; exact h.1
  · rw [hb.cell (p := ⟨X, 1, none⟩) hX]; exact h.2.1
  · rw [hb.cell (p := ⟨X, 2, none⟩) hX]; exact h.2.2
theorem one_on {w w' : World} {p : Addr} {v : Value} (h : w.cell? p = some v) (hb : Below w.heap.size w w') : w'.cell? p = some v := by rw [hb.cell (World.block_lt_of_cell? w _ h)]; exact h
theorem ev_same {vs : List Vr} {D : Nat} {p q : T D} (h1 : fmC (D + 1) (mkT 5 0 ⟨#[38, 38]⟩ [p, q]) = true) (h2 : fmC (D + 3) (mkT 3 0 ⟨#[]⟩ [mkT 5 0 ⟨#[124, 124]⟩ [mkT 3 0 ⟨#[]⟩ [p], mkT 3 0 ⟨#[]⟩ [q]]]) = true) :
    evX vs (D + 1) (mkT 5 0 ⟨#[38, 38]⟩ [p, q]) = evX vs (D + 3) (mkT 3 0 ⟨#[]⟩ [mkT 5 0 ⟨#[124, 124]⟩ [mkT 3 0 ⟨#[]⟩ [p], mkT 3 0 ⟨#[]⟩ [q]]]) := by
  unfold evX
  rw [if_pos h1, if_pos h2]
  exact ev_logic vs p q

set_option maxRecDepth 100000 in
set_option maxHeartbeats 8000000 in
theorem exprLogic_of (G : EvalP) (GF : FormedP) {w : World} {d e : Nat} {t : T d} {u : T e} {v v' vv : Value} {vs : List Vr} (h : RdT (fun _ => True) w d t v) (h' : RdT (fun _ => True) w e u v') (hv : RdV w vv vs) :
    Calls Try.prog 5 #[v, v', vv] w fun r w' => r = .returned (.bool true) ∧ Below w.heap.size w w' := by
  match d, t, h, e, u, h' with
  | 0, t, _, _, _, _ => exact Empty.elim t
  | _ + 1, _, _, 0, u, _ => exact Empty.elim u
  | d + 1, t, h, e + 1, u, h' =>
  obtain ⟨k, n, s, ps, rfl⟩ := T.open t
  obtain ⟨k', n', s', qs, rfl⟩ := T.open u
  have h0 := h
  have h0' := h'
  obtain ⟨sl, rfl, _⟩ := rdT_mk.1 h
  obtain ⟨sl', rfl, _⟩ := rdT_mk.1 h'
  clear h h'
  have bb := ((Below.refl w.heap.size w).alloc (Nat.le_refl _) (.cells #[.int .i64 k, .int .i64 n, .string s, sl] 24)).alloc (by simp) (.cells #[.int .i64 k', .int .i64 n', .string s', sl'] 24)
  have hA := (At4.new w (.int .i64 k) (.int .i64 n) (.string s) sl 24).on ((Below.refl _ _).alloc (Nat.le_refl _) (.cells #[.int .i64 k', .int .i64 n', .string s', sl'] 24))
  have hB := At4.newAt (w.alloc (.cells #[.int .i64 k, .int .i64 n, .string s, sl] 24)) (.int .i64 k') (.int .i64 n') (.string s') sl' 24 (w.heap.size + 1) (by simp)
  have h1 := fun w1 => awakeX G w1
  have h2 := fun w1 (b : Below w.heap.size w w1) => refSmallTop_any (RdT.below b (Nat.le_refl _) h0)
  have h3 := fun w1 (b : Below w.heap.size w w1) => refSmallTop_any (RdT.below b (Nat.le_refl _) h0')
  have h4 := fun w1 (b : Below w.heap.size w w1) => few_any (hv.below b (Nat.le_refl _))
  by_cases hsm : 0 ≤ sml (d + 1) (mkT k n s ps) 0 200
  case neg =>
    simp only [decide_eq_false hsm] at h2
    clear h3 hsm h4
    have s1 := h1 ((w.alloc (.cells #[.int .i64 k, .int .i64 n, .string s, sl] 24)).alloc (.cells #[.int .i64 k', .int .i64 n', .string s', sl'] 24))
    go_enter Try.func5, Try.ntmps5
    go_wp2_with (first
      | (go_at_call 6; refine s1.mono ?_; rintro r wn ⟨rfl, bn⟩; have bb := bthen bb bn; have hA := hA.on bn; have hB := hB.on bn; obtain ⟨y0, y1, y2, y3⟩ := id hA; obtain ⟨z0, z1, z2, z3⟩ := id hB; have s2 := h2 wn bb; clear s1)
      | (go_at_call 7; refine s2.mono ?_; rintro r wn ⟨rfl, bn⟩; have bb := bthen bb bn; have hA := hA.on bn; have hB := hB.on bn; obtain ⟨y0, y1, y2, y3⟩ := id hA; obtain ⟨z0, z1, z2, z3⟩ := id hB; have s3 := h1 wn; clear s2)
      | (go_at_call 6; refine s3.mono ?_; rintro r wn ⟨rfl, bn⟩; have bb := bthen bb bn; have hA := hA.on bn; have hB := hB.on bn; obtain ⟨y0, y1, y2, y3⟩ := id hA; obtain ⟨z0, z1, z2, z3⟩ := id hB; clear s3))
    go_ret
    exact ⟨rfl, bb⟩
  simp only [decide_eq_true hsm] at h2
  by_cases hsm' : 0 ≤ sml (e + 1) (mkT k' n' s' qs) 0 200
  case neg =>
    simp only [decide_eq_false hsm'] at h3
    clear hsm hsm' h4
    have s1 := h1 ((w.alloc (.cells #[.int .i64 k, .int .i64 n, .string s, sl] 24)).alloc (.cells #[.int .i64 k', .int .i64 n', .string s', sl'] 24))
    go_enter Try.func5, Try.ntmps5
    go_wp2_with (first
      | (go_at_call 6; refine s1.mono ?_; rintro r wn ⟨rfl, bn⟩; have bb := bthen bb bn; have hA := hA.on bn; have hB := hB.on bn; obtain ⟨y0, y1, y2, y3⟩ := id hA; obtain ⟨z0, z1, z2, z3⟩ := id hB; have s2 := h2 wn bb; clear s1)
      | (go_at_call 7; refine s2.mono ?_; rintro r wn ⟨rfl, bn⟩; have bb := bthen bb bn; have hA := hA.on bn; have hB := hB.on bn; obtain ⟨y0, y1, y2, y3⟩ := id hA; obtain ⟨z0, z1, z2, z3⟩ := id hB; have s3 := h3 wn bb; clear s2)
      | (go_at_call 7; refine s3.mono ?_; rintro r wn ⟨rfl, bn⟩; have bb := bthen bb bn; have hA := hA.on bn; have hB := hB.on bn; obtain ⟨y0, y1, y2, y3⟩ := id hA; obtain ⟨z0, z1, z2, z3⟩ := id hB; have s4 := h1 wn; clear s3)
      | (go_at_call 6; refine s4.mono ?_; rintro r wn ⟨rfl, bn⟩; have bb := bthen bb bn; have hA := hA.on bn; have hB := hB.on bn; obtain ⟨y0, y1, y2, y3⟩ := id hA; obtain ⟨z0, z1, z2, z3⟩ := id hB; clear s4))
    go_ret
    exact ⟨rfl, bb⟩
  simp only [decide_eq_true hsm'] at h3
  cases hfw : fewS vs with
  | false =>
    simp only [hfw] at h4
    clear hsm hsm' hfw
    have s1 := h1 ((w.alloc (.cells #[.int .i64 k, .int .i64 n, .string s, sl] 24)).alloc (.cells #[.int .i64 k', .int .i64 n', .string s', sl'] 24))
    go_enter Try.func5, Try.ntmps5
    go_wp2_with (first
      | (go_at_call 6; refine s1.mono ?_; rintro r wn ⟨rfl, bn⟩; have bb := bthen bb bn; have hA := hA.on bn; have hB := hB.on bn; obtain ⟨y0, y1, y2, y3⟩ := id hA; obtain ⟨z0, z1, z2, z3⟩ := id hB; have s2 := h2 wn bb; clear s1)
      | (go_at_call 7; refine s2.mono ?_; rintro r wn ⟨rfl, bn⟩; have bb := bthen bb bn; have hA := hA.on bn; have hB := hB.on bn; obtain ⟨y0, y1, y2, y3⟩ := id hA; obtain ⟨z0, z1, z2, z3⟩ := id hB; have s3 := h3 wn bb; clear s2)
      | (go_at_call 7; refine s3.mono ?_; rintro r wn ⟨rfl, bn⟩; have bb := bthen bb bn; have hA := hA.on bn; have hB := hB.on bn; obtain ⟨y0, y1, y2, y3⟩ := id hA; obtain ⟨z0, z1, z2, z3⟩ := id hB; have s4 := h4 wn bb; clear s3)
      | (go_at_call 13; refine s4.mono ?_; rintro r w' ⟨rfl, rfl⟩; have s5 := h1 wn; clear s4)
      | (go_at_call 6; refine s5.mono ?_; rintro r wn ⟨rfl, bn⟩; have bb := bthen bb bn; have hA := hA.on bn; have hB := hB.on bn; obtain ⟨y0, y1, y2, y3⟩ := id hA; obtain ⟨z0, z1, z2, z3⟩ := id hB; clear s5))
    go_ret
    exact ⟨rfl, bb⟩
  | true =>
  simp only [hfw] at h4
  have hvl : vs.length ≤ 200 := by unfold fewS at hfw; simp only [Bool.and_eq_true, decide_eq_true_eq] at hfw; exact hfw.1
  obtain ⟨hc1, hc2⟩ := small_cln hsm
  obtain ⟨hc1', hc2'⟩ := small_cln hsm'
  have hcn := cnt_cln (d + 1) (mkT k n s ps)
  have hcn' := cnt_cln (e + 1) (mkT k' n' s' qs)
  have hcb := (sml_ok (d + 1) (mkT k n s ps) 0 200 hsm).1
  have hcb' := (sml_ok (e + 1) (mkT k' n' s' qs) 0 200 hsm').1
  have hcl := cl_cln (d + 1) (mkT k n s ps)
  have hcl' := cl_cln (e + 1) (mkT k' n' s' qs)
  have h5 := fun w1 (b : Below w.heap.size w w1) => theirs_any (d + 1) _ _ _ w1 (RdT.below b (Nat.le_refl _) h0)
  have h6 := fun w1 (b : Below w.heap.size w w1) => theirs_any (e + 1) _ _ _ w1 (RdT.below b (Nat.le_refl _) h0')
  obtain ⟨D, p, q, ⟨hp1, hp2⟩, ⟨hq1, hq2⟩⟩ := both _ _ (cln (d + 1) (mkT k n s ps)) (cln (e + 1) (mkT k' n' s' qs))
  have pcl := hp2 hcl
  have qcl := hq2 hcl'
  have pc : cnt D p ≤ 600 := by have : cnt D p = cnt _ (cln (d + 1) (mkT k n s ps)) := hp1 _ _; omega
  have qc : cnt D q ≤ 600 := by have : cnt D q = cnt _ (cln (e + 1) (mkT k' n' s' qs)) := hq1 _ _; omega
  have psh : shrt 1000 D p = true := (hp1 _ _).trans hc2
  have qsh : shrt 1000 D q = true := (hq1 _ _).trans hc2'
  have pex : exV D p = exV (d + 1) (mkT k n s ps) := (hp1 _ _).trans (exV_cln _ _)
  have qex : exV D q = exV (e + 1) (mkT k' n' s' qs) := (hq1 _ _).trans (exV_cln _ _)
  rw [← pex] at h5
  rw [← qex] at h6
  have acl : Cl (D + 1) (mkT 5 0 ⟨#[38, 38]⟩ [p, q]) := .inr (.inr (.inr (.inl ⟨rfl, rfl, _, _, rfl, pcl, qcl⟩)))
  have ocl : Cl (D + 3) (mkT 3 0 ⟨#[]⟩ [mkT 5 0 ⟨#[124, 124]⟩ [mkT 3 0 ⟨#[]⟩ [p], mkT 3 0 ⟨#[]⟩ [q]]]) := .inr (.inr (.inl ⟨.inl rfl, rfl, rfl, _, rfl, .inr (.inr (.inr (.inl ⟨rfl, rfl, _, _, rfl, .inr (.inr (.inl ⟨.inl rfl, rfl, rfl, _, rfl, pcl⟩)), .inr (.inr (.inl ⟨.inl rfl, rfl, rfl, _, rfl, qcl⟩))⟩)))⟩))
  have acn : cnt (D + 1) (mkT 5 0 ⟨#[38, 38]⟩ [p, q]) ≤ 2000 := by rw [cnt_mk]; simp only [List.map_cons, List.map_nil, List.sum_cons, List.sum_nil]; omega
  have ocn : cnt (D + 3) (mkT 3 0 ⟨#[]⟩ [mkT 5 0 ⟨#[124, 124]⟩ [mkT 3 0 ⟨#[]⟩ [p], mkT 3 0 ⟨#[]⟩ [q]]]) ≤ 2000 := by rw [cnt_mk, List.map_cons, List.map_nil, cnt_mk, List.map_cons, List.map_cons, List.map_nil, cnt_mk, cnt_mk]; simp only [List.map_cons, List.map_nil, List.sum_cons, List.sum_nil]; omega
  have ash : shrt 1000 (D + 1) (mkT 5 0 ⟨#[38, 38]⟩ [p, q]) = true := by rw [shrt_mk]; simp [psh, qsh, size2]
  have osh : shrt 1000 (D + 3) (mkT 3 0 ⟨#[]⟩ [mkT 5 0 ⟨#[124, 124]⟩ [mkT 3 0 ⟨#[]⟩ [p], mkT 3 0 ⟨#[]⟩ [q]]]) = true := by
    rw [shrt_mk, List.all_cons, List.all_nil, shrt_mk, List.all_cons, List.all_cons, List.all_nil, shrt_mk, shrt_mk]
    simp [psh, qsh, size0, size2]
  have g1 := fun w1 => GF _ _ w1 acl acn ash
  have g2 := fun w1 => GF _ _ w1 ocl ocn osh
  have g3 := fun w1 (b : Below w.heap.size w w1) => G _ _ vs vv w1 acl acn ash (hv.below b (Nat.le_refl _)) (by omega)
  have g4 := fun w1 (b : Below w.heap.size w w1) => G _ _ vs vv w1 ocl ocn osh (hv.below b (Nat.le_refl _)) (by omega)
  have hsame := ev_same (vs := vs) (p := p) (q := q)
  have ea : exV (D + 1) (mkT 5 0 ⟨#[38, 38]⟩ [p, q]) = .iface 38 (.agg #[.string ⟨#[38, 38]⟩, exV D p, exV D q]) := rfl
  have eo : exV (D + 3) (mkT 3 0 ⟨#[]⟩ [mkT 5 0 ⟨#[124, 124]⟩ [mkT 3 0 ⟨#[]⟩ [p], mkT 3 0 ⟨#[]⟩ [q]]]) = .iface 40 (.agg #[.iface 38 (.agg #[.string ⟨#[124, 124]⟩, .iface 40 (.agg #[exV D p]), .iface 40 (.agg #[exV D q])])]) := rfl
  rw [ea] at g1 g3
  rw [eo] at g2 g4
  obtain ⟨fa, hfa⟩ : ∃ f, fmC (D + 1) (mkT 5 0 ⟨#[38, 38]⟩ [p, q]) = f := ⟨_, rfl⟩
  obtain ⟨fo, hfo⟩ : ∃ f, fmC (D + 3) (mkT 3 0 ⟨#[]⟩ [mkT 5 0 ⟨#[124, 124]⟩ [mkT 3 0 ⟨#[]⟩ [p], mkT 3 0 ⟨#[]⟩ [q]]]) = f := ⟨_, rfl⟩
  rw [hfa, hfo] at hsame
  rw [hfa] at g1
  rw [hfo] at g2
  obtain ⟨⟨va, ea'⟩, hva⟩ : ∃ x, evX vs (D + 1) (mkT 5 0 ⟨#[38, 38]⟩ [p, q]) = x := ⟨_, rfl⟩
  obtain ⟨⟨vo, eo'⟩, hvo⟩ : ∃ x, evX vs (D + 3) (mkT 3 0 ⟨#[]⟩ [mkT 5 0 ⟨#[124, 124]⟩ [mkT 3 0 ⟨#[]⟩ [p], mkT 3 0 ⟨#[]⟩ [q]]]) = x := ⟨_, rfl⟩
  simp only [hva] at g3
  simp only [hvo] at g4
  rw [hva, hvo] at hsame
  have hf := exV_form D p
  have hg := exV_form D q
  obtain ⟨ex, hex⟩ : ∃ ex, exV D p = ex := ⟨_, rfl⟩
  obtain ⟨ey, hey⟩ : ∃ ex, exV D q = ex := ⟨_, rfl⟩
  rw [hex] at hf
  rw [hey] at hg
  simp only [hex] at h5 g1 g2 g3 g4
  simp only [hey] at h6 g1 g2 g3 g4
  unfold pr2 at g3 g4
  clear hsm hsm' hfw hc1 hc1' hc2 hc2' hcn hcn' hcb hcb' hcl hcl' hp1 hp2 hq1 hq2 pcl qcl pc qc psh qsh pex qex acl ocl acn ocn ash osh ea eo hfa hfo hva hvo hex hey h0 h0'
  have s1 := h1 ((w.alloc (.cells #[.int .i64 k, .int .i64 n, .string s, sl] 24)).alloc (.cells #[.int .i64 k', .int .i64 n', .string s', sl'] 24))
  go_enter Try.func5, Try.ntmps5
  go_wp2_with (first
    | (go_at_call 6; refine s1.mono ?_; rintro r wn ⟨rfl, bn⟩; have bb := bthen bb bn; have hA := hA.on bn; have hB := hB.on bn; obtain ⟨y0, y1, y2, y3⟩ := id hA; obtain ⟨z0, z1, z2, z3⟩ := id hB; have s2 := h2 wn bb; clear s1)
    | (go_at_call 7; refine s2.mono ?_; rintro r wn ⟨rfl, bn⟩; have bb := bthen bb bn; have hA := hA.on bn; have hB := hB.on bn; obtain ⟨y0, y1, y2, y3⟩ := id hA; obtain ⟨z0, z1, z2, z3⟩ := id hB; have s3 := h3 wn bb; clear s2)
    | (go_at_call 7; refine s3.mono ?_; rintro r wn ⟨rfl, bn⟩; have bb := bthen bb bn; have hA := hA.on bn; have hB := hB.on bn; obtain ⟨y0, y1, y2, y3⟩ := id hA; obtain ⟨z0, z1, z2, z3⟩ := id hB; have s4 := h4 wn bb; clear s3)
    | (go_at_call 13; refine s4.mono ?_; rintro r w' ⟨rfl, rfl⟩; clear s4))
  have bd : Below wn.heap.size wn wn.drew := (Below.refl _ _).drew
  have bb := bthen bb bd
  have hA := hA.on bd
  have hB := hB.on bd
  have s1 := h5 wn.drew bb
  clear y0 y1 y2 y3 z0 z1 z2 z3 h1 h2 h3 h4
  go_region_held (fun w' => w'.cell? ⟨w.heap.size, 0, none⟩ = some (.int .i64 k) ∧ w'.cell? ⟨w.heap.size, 1, none⟩ = some (.int .i64 n) ∧ w'.cell? ⟨w.heap.size, 2, none⟩ = some (.string s) ∧ w'.cell? ⟨w.heap.size, 3, none⟩ = some sl ∧ w'.cell? ⟨w.heap.size + 1, 0, none⟩ = some (.int .i64 k') ∧ w'.cell? ⟨w.heap.size + 1, 1, none⟩ = some (.int .i64 n') ∧ w'.cell? ⟨w.heap.size + 1, 2, none⟩ = some (.string s') ∧ w'.cell? ⟨w.heap.size + 1, 3, none⟩ = some sl')
    (first | exact ⟨hA.1, hA.2.1, hA.2.2.1, hA.2.2.2, hB.1, hB.2.1, hB.2.2.1, hB.2.2.2⟩ | go_keep)
    (first
      | (go_at_call 9; refine s1.mono ?_; rintro r wn ⟨rfl, bn⟩; have bb := bthen bb bn; have hA := hA.on bn; have hB := hB.on bn; have s2 := h6 wn bb; clear s1)
      | (go_at_call 9; refine s2.mono ?_; rintro r wn ⟨rfl, bn⟩; have bb := bthen bb bn; have hA := hA.on bn; have hB := hB.on bn; clear s2))
  clear hA hB
  have b1 := bb.alloc bb.size (.cells #[.string ⟨#[38, 38]⟩, ex, ey] 38)
  have b2 := b1.alloc b1.size (.cells #[.iface 38 (.agg #[.string ⟨#[124, 124]⟩, .iface 40 (.agg #[ex]), .iface 40 (.agg #[ey])])] 40)
  have hC : At3 ((wn.alloc (.cells #[.string ⟨#[38, 38]⟩, ex, ey] 38)).alloc (.cells #[.iface 38 (.agg #[.string ⟨#[124, 124]⟩, .iface 40 (.agg #[ex]), .iface 40 (.agg #[ey])])] 40)) wn.heap.size (.string ⟨#[38, 38]⟩) ex ey := ⟨by simp, by simp, by simp⟩
  have hD : ((wn.alloc (.cells #[.string ⟨#[38, 38]⟩, ex, ey] 38)).alloc (.cells #[.iface 38 (.agg #[.string ⟨#[124, 124]⟩, .iface 40 (.agg #[ex]), .iface 40 (.agg #[ey])])] 40)).cell? ⟨wn.heap.size + 1, 0, none⟩ = some (.iface 38 (.agg #[.string ⟨#[124, 124]⟩, .iface 40 (.agg #[ex]), .iface 40 (.agg #[ey])])) := by simp
  have s1 := g1 ((wn.alloc (.cells #[.string ⟨#[38, 38]⟩, ex, ey] 38)).alloc (.cells #[.iface 38 (.agg #[.string ⟨#[124, 124]⟩, .iface 40 (.agg #[ex]), .iface 40 (.agg #[ey])])] 40))
  have bb := b2
  have Hsame : Hid (fa = true → fo = true → (va, ea') = (vo, eo')) := hsame
  clear b1 b2 bd hsame h5 h6
  rcases hf with rfl | ⟨u1, z1, rfl⟩
  · rcases hg with rfl | ⟨u2, z2, rfl⟩
    ·
      cases fa with
      | false =>
        clear hC hD g2 g3 g4 Hsame
        go_wp2_with (first
          | (go_at_call 14; refine s1.mono ?_; rintro r wn ⟨rfl, bn⟩; have bb := bthen bb bn; clear s1))
        go_ret
        exact ⟨rfl, bb⟩
      | true =>
        cases fo with
        | false =>
          clear g3 g4 Hsame
          go_wp2_with (first
            | (go_at_call 14; refine s1.mono ?_; rintro r wn ⟨rfl, bn⟩; have bb := bthen bb bn; have hC := hC.on bn; have hD := one_on hD bn; obtain ⟨q0, q1, q2⟩ := id hC; have s2 := g2 wn; clear s1)
            | (go_at_call 14; refine s2.mono ?_; rintro r wn ⟨rfl, bn⟩; have bb := bthen bb bn; have hC := hC.on bn; have hD := one_on hD bn; obtain ⟨q0, q1, q2⟩ := id hC; clear s2))
          go_ret
          exact ⟨rfl, bb⟩
        | true =>
          obtain ⟨rfl, rfl⟩ := Prod.mk.inj (Hsame.out rfl rfl)
          clear Hsame
          go_wp2_with (first
            | (go_at_call 14; refine s1.mono ?_; rintro r wn ⟨rfl, bn⟩; have bb := bthen bb bn; have hC := hC.on bn; have hD := one_on hD bn; obtain ⟨q0, q1, q2⟩ := id hC; have s2 := g2 wn; clear s1)
            | (go_at_call 14; refine s2.mono ?_; rintro r wn ⟨rfl, bn⟩; have bb := bthen bb bn; have hC := hC.on bn; have hD := one_on hD bn; obtain ⟨q0, q1, q2⟩ := id hC; have s3 := g3 wn bb; clear s2)
            | (go_at_call 15; refine s3.mono ?_; rintro r wn ⟨rfl, bn⟩; have bb := bthen bb bn; have hC := hC.on bn; have hD := one_on hD bn; obtain ⟨q0, q1, q2⟩ := id hC; have s4 := g4 wn bb; clear s3)
            | (go_at_call 15; refine s4.mono ?_; rintro r wn ⟨rfl, bn⟩; have bb := bthen bb bn; have hC := hC.on bn; have hD := one_on hD bn; obtain ⟨q0, q1, q2⟩ := id hC; clear s4))
          go_ret
          exact ⟨ret_bool (by simp), bb⟩
    ·
      cases fa with
      | false =>
        clear hC hD g2 g3 g4 Hsame
        go_wp2_with (first
          | (go_at_call 14; refine s1.mono ?_; rintro r wn ⟨rfl, bn⟩; have bb := bthen bb bn; clear s1))
        go_ret
        exact ⟨rfl, bb⟩
      | true =>
        cases fo with
        | false =>
          clear g3 g4 Hsame
          go_wp2_with (first
            | (go_at_call 14; refine s1.mono ?_; rintro r wn ⟨rfl, bn⟩; have bb := bthen bb bn; have hC := hC.on bn; have hD := one_on hD bn; obtain ⟨q0, q1, q2⟩ := id hC; have s2 := g2 wn; clear s1)
            | (go_at_call 14; refine s2.mono ?_; rintro r wn ⟨rfl, bn⟩; have bb := bthen bb bn; have hC := hC.on bn; have hD := one_on hD bn; obtain ⟨q0, q1, q2⟩ := id hC; clear s2))
          go_ret
          exact ⟨rfl, bb⟩
        | true =>
          obtain ⟨rfl, rfl⟩ := Prod.mk.inj (Hsame.out rfl rfl)
          clear Hsame
          go_wp2_with (first
            | (go_at_call 14; refine s1.mono ?_; rintro r wn ⟨rfl, bn⟩; have bb := bthen bb bn; have hC := hC.on bn; have hD := one_on hD bn; obtain ⟨q0, q1, q2⟩ := id hC; have s2 := g2 wn; clear s1)
            | (go_at_call 14; refine s2.mono ?_; rintro r wn ⟨rfl, bn⟩; have bb := bthen bb bn; have hC := hC.on bn; have hD := one_on hD bn; obtain ⟨q0, q1, q2⟩ := id hC; have s3 := g3 wn bb; clear s2)
            | (go_at_call 15; refine s3.mono ?_; rintro r wn ⟨rfl, bn⟩; have bb := bthen bb bn; have hC := hC.on bn; have hD := one_on hD bn; obtain ⟨q0, q1, q2⟩ := id hC; have s4 := g4 wn bb; clear s3)
            | (go_at_call 15; refine s4.mono ?_; rintro r wn ⟨rfl, bn⟩; have bb := bthen bb bn; have hC := hC.on bn; have hD := one_on hD bn; obtain ⟨q0, q1, q2⟩ := id hC; clear s4))
          go_ret
          exact ⟨ret_bool (by simp), bb⟩
  · rcases hg with rfl | ⟨u2, z2, rfl⟩
    ·
      cases fa with
      | false =>
        clear hC hD g2 g3 g4 Hsame
        go_wp2_with (first
          | (go_at_call 14; refine s1.mono ?_; rintro r wn ⟨rfl, bn⟩; have bb := bthen bb bn; clear s1))
        go_ret
        exact ⟨rfl, bb⟩
      | true =>
        cases fo with
        | false =>
          clear g3 g4 Hsame
          go_wp2_with (first
            | (go_at_call 14; refine s1.mono ?_; rintro r wn ⟨rfl, bn⟩; have bb := bthen bb bn; have hC := hC.on bn; have hD := one_on hD bn; obtain ⟨q0, q1, q2⟩ := id hC; have s2 := g2 wn; clear s1)
            | (go_at_call 14; refine s2.mono ?_; rintro r wn ⟨rfl, bn⟩; have bb := bthen bb bn; have hC := hC.on bn; have hD := one_on hD bn; obtain ⟨q0, q1, q2⟩ := id hC; clear s2))
          go_ret
          exact ⟨rfl, bb⟩
        | true =>
          obtain ⟨rfl, rfl⟩ := Prod.mk.inj (Hsame.out rfl rfl)
          clear Hsame
          go_wp2_with (first
            | (go_at_call 14; refine s1.mono ?_; rintro r wn ⟨rfl, bn⟩; have bb := bthen bb bn; have hC := hC.on bn; have hD := one_on hD bn; obtain ⟨q0, q1, q2⟩ := id hC; have s2 := g2 wn; clear s1)
            | (go_at_call 14; refine s2.mono ?_; rintro r wn ⟨rfl, bn⟩; have bb := bthen bb bn; have hC := hC.on bn; have hD := one_on hD bn; obtain ⟨q0, q1, q2⟩ := id hC; have s3 := g3 wn bb; clear s2)
            | (go_at_call 15; refine s3.mono ?_; rintro r wn ⟨rfl, bn⟩; have bb := bthen bb bn; have hC := hC.on bn; have hD := one_on hD bn; obtain ⟨q0, q1, q2⟩ := id hC; have s4 := g4 wn bb; clear s3)
            | (go_at_call 15; refine s4.mono ?_; rintro r wn ⟨rfl, bn⟩; have bb := bthen bb bn; have hC := hC.on bn; have hD := one_on hD bn; obtain ⟨q0, q1, q2⟩ := id hC; clear s4))
          go_ret
          exact ⟨ret_bool (by simp), bb⟩
    ·
      cases fa with
      | false =>
        clear hC hD g2 g3 g4 Hsame
        go_wp2_with (first
          | (go_at_call 14; refine s1.mono ?_; rintro r wn ⟨rfl, bn⟩; have bb := bthen bb bn; clear s1))
        go_ret
        exact ⟨rfl, bb⟩
      | true =>
        cases fo with
        | false =>
          clear g3 g4 Hsame
          go_wp2_with (first
            | (go_at_call 14; refine s1.mono ?_; rintro r wn ⟨rfl, bn⟩; have bb := bthen bb bn; have hC := hC.on bn; have hD := one_on hD bn; obtain ⟨q0, q1, q2⟩ := id hC; have s2 := g2 wn; clear s1)
            | (go_at_call 14; refine s2.mono ?_; rintro r wn ⟨rfl, bn⟩; have bb := bthen bb bn; have hC := hC.on bn; have hD := one_on hD bn; obtain ⟨q0, q1, q2⟩ := id hC; clear s2))
          go_ret
          exact ⟨rfl, bb⟩
        | true =>
          obtain ⟨rfl, rfl⟩ := Prod.mk.inj (Hsame.out rfl rfl)
          clear Hsame
          go_wp2_with (first
            | (go_at_call 14; refine s1.mono ?_; rintro r wn ⟨rfl, bn⟩; have bb := bthen bb bn; have hC := hC.on bn; have hD := one_on hD bn; obtain ⟨q0, q1, q2⟩ := id hC; have s2 := g2 wn; clear s1)
            | (go_at_call 14; refine s2.mono ?_; rintro r wn ⟨rfl, bn⟩; have bb := bthen bb bn; have hC := hC.on bn; have hD := one_on hD bn; obtain ⟨q0, q1, q2⟩ := id hC; have s3 := g3 wn bb; clear s2)
            | (go_at_call 15; refine s3.mono ?_; rintro r wn ⟨rfl, bn⟩; have bb := bthen bb bn; have hC := hC.on bn; have hD := one_on hD bn; obtain ⟨q0, q1, q2⟩ := id hC; have s4 := g4 wn bb; clear s3)
            | (go_at_call 15; refine s4.mono ?_; rintro r wn ⟨rfl, bn⟩; have bb := bthen bb bn; have hC := hC.on bn; have hD := one_on hD bn; obtain ⟨q0, q1, q2⟩ := id hC; clear s4))
          go_ret
          exact ⟨ret_bool (by simp), bb⟩
end Go.Proofs.Ytjbfhpgiobddoaa
