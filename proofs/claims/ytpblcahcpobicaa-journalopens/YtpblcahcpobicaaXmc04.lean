import Derived.Test.YtpblcahcpobicaaXmc03
import Derived.WalkSmall
import Derived.BigQuiet
import Derived.Deep.QuietTactic
import Derived.Deep.DeepCutAuto
import Derived.Deep.RegionHeldLaw
import Derived.Deep.RegionLaw
import Derived.Deep.Cut
import Derived.Lib.SlBytesConst
import Derived.Laws.BitsAllLaws

/- The program's disk: put, remove. -/
namespace Go.Proofs.Ytpblcahcpobicaa
open Go.RowKit Go.Lib Go.Maps
set_option linter.unusedSimpArgs false
set_option linter.unusedVariables false
attribute [local go_sem ↓] Go.wp_at_zero Go.wp_at_succ

theorem dl_some {w : World} {b : Nat} {l : List (Int × Value)} {n : Int} {v : Value} (ho : w.ownsMap Try.prog 3 hR b l.length (.map (esD l))) (hs : Ris l) (hl : l.length ≤ 100000) (hn : (Lit.int .i64 n).wf = true) :
    ∃ w', (Instr.mapUpdate 66 (.map (some b)) (.int .i64 n) v).run Try.prog w = .ok () w' ∧ w'.ownsMap Try.prog 3 hR b (pt n v l).length (.map (esD (pt n v l))) ∧ w.mapTurned w' b := by
  obtain ⟨w', h1, h2, h3⟩ := ho.store (int_keyed Try.underlying3) Try.underlying66 (by unfold maxLen; omega) (val := v) (d := .held v) (ps := []) (keyI hn) rfl
  rw [putD n v hs] at h2
  exact ⟨w', h1, ownsMap_tight h2, h3⟩
/-- A segment is put among those that are there. -/
theorem PRx.put {w w' : World} {X b : Nat} {F : Nat → Prop} {E : List (Int × Sv)} {n : Int} {s : Sv} (h : PRx w X F (some b) E n) (ho : w'.ownsMap Try.prog 3 hR b (pt n (cv s) (esV E)).length (.map (esD (pt n (cv s) (esV E))))) (ht : w.mapTurned w' b)
    (hs : Own w 0 5 s.1 s.2.1) (hf : ∀ g, s.1.ownBlock = some g → F g ∧ g ≠ X) (ha : ∀ x ∈ E, x.1 ≠ n → ∀ g, x.2.1.ownBlock = some g → s.1.ownBlock ≠ some g) : PR w' X F (some b) (pt n s E) := by
  obtain ⟨es0, cl0, es1, cl1, hb0, _⟩ := id ht
  have hkeep : ∀ {v : Value} {xs : List Int}, Own w 0 5 v xs → Own w' 0 5 v xs := fun {v xs} hv => ownD_keep hv (fun g hg => ht.grown.block g (ownsRow_lt hv g hg).2 (fun e => by
    have e : g = b := Option.some.inj e
    subst e
    rcases hv.2 with ⟨rfl, _⟩ | ⟨g', cap, cur, rfl, _, hc, _⟩
    · simp [Value.ownBlock] at hg
    · have : g' = g := by simpa [Value.ownBlock] using hg
      subst this
      rw [hb0] at hc
      cases hc))
  have hm : ∀ x ∈ pt n s E, x = (n, s) ∨ (x ∈ E ∧ x.1 ≠ n) := fun x hx => mem_pt h.r hx
  refine ⟨ris_pt h.r, .inr ⟨b, rfl, by rw [esV_pt]; exact ho⟩, h.fm, fun x hx => ?_, ?_⟩
  · rcases hm x hx with rfl | ⟨hx, _⟩
    · exact ⟨hkeep hs, hf⟩
    · rename_i hne
      exact ⟨hkeep (h.s x hx hne).1, (h.s x hx hne).2⟩
  · have hap := h.a
    have hr := h.r
    clear h ho hkeep hm
    induction E with
    | nil => simp [pt]
    | cons y r ih =>
      obtain ⟨a1, a2⟩ := List.pairwise_cons.1 hap
      obtain ⟨r1, r2⟩ := List.pairwise_cons.1 hr
      have ih := ih (fun x hx => ha x (List.mem_cons_of_mem _ hx)) a2 r2
      unfold pt
      split
      · rename_i hlt
        have hne : ∀ x ∈ y :: r, x.1 ≠ n := fun x hx => by
          rcases List.mem_cons.1 hx with rfl | hx
          · omega
          · have := r1 x hx
            omega
        exact List.pairwise_cons.2 ⟨fun x hx g hg hx2 => ha x hx (hne x hx) g hx2 hg, hap.imp_of_mem (fun hx hy h => h (hne _ hx) (hne _ hy))⟩
      · split
        · rename_i hlt he
          have hne : ∀ x ∈ r, x.1 ≠ n := fun x hx => by
            have := r1 x hx
            omega
          exact List.pairwise_cons.2 ⟨fun x hx g hg hx2 => ha x (List.mem_cons_of_mem _ hx) (hne x hx) g hx2 hg, a2.imp_of_mem (fun hx hy h => h (hne _ hx) (hne _ hy))⟩
        · rename_i hlt he
          refine List.pairwise_cons.2 ⟨fun x hx g hg => ?_, ih⟩
          rcases mem_pt r2 hx with rfl | ⟨hx, hne⟩
          · exact ha y List.mem_cons_self he g hg
          · exact a1 x hx he hne g hg
theorem eqlSome (b : Nat) (w : World) : (binOp .eql 66 (.map (some b)) (.map none)).run Try.prog w = .ok (.bool false) w := by kernel_rfl
theorem eqlNil (w : World) : (binOp .eql 66 (.map none) (.map none)).run Try.prog w = .ok (.bool true) w := by kernel_rfl
theorem esV_len (E : List (Int × Sv)) : (esV E).length = E.length := by simp [esV]
set_option maxRecDepth 100000 in
set_option maxHeartbeats 4000000 in
theorem dput_any {w : World} {X : Nat} {F : Nat → Prop} {mv : Option Nat} {E : List (Int × Sv)} {cs : List Value} {n : Int} {s : Sv} (h : PRx w X F mv E n) (hB : Bn w X (.map mv :: cs)) (hX : F X) (hn : (Lit.int .i64 n).wf = true) (hl : E.length ≤ 100000)
    (hs : Own w 0 5 s.1 s.2.1) (hf : ∀ g, s.1.ownBlock = some g → F g ∧ g ≠ X) (ha : ∀ x ∈ E, x.1 ≠ n → ∀ g, x.2.1.ownBlock = some g → s.1.ownBlock ≠ some g) :
    Calls Try.prog 53 #[.pointer (some ⟨X, 0, none⟩), .int .i64 n, cv s] w fun e w' => e = .returned (.tuple #[]) ∧ (∃ mv', Bn w' X (.map mv' :: cs) ∧ PR w' X (nF F w) mv' (pt n s E)) ∧ Kf F w w' := by
  have hXl := hB.lt
  obtain ⟨c0, f0⟩ := hB 0 _ rfl
  have hmono : ∀ j, F j → nF F w j := fun j hj => .inl hj
  have hal : Below w.heap.size w (w.alloc (.cells #[s.1, .int .i64 (s.2.2 : Int)] 92)) := (Below.refl _ _).alloc (Nat.le_refl _) _
  have hBx := Bn.new w [s.1, .int .i64 (s.2.2 : Int)] 92 _ rfl
  obtain ⟨sv, sb, sn⟩ := s
  simp only at *
  have hs' : Own (w.alloc (.cells #[sv, .int .i64 (sn : Int)] 92)) 0 5 sv sb := ownD_keep hs (fun g hg => hal.block g (ownsRow_lt hs g hg).2)
  obtain ⟨x0, g0⟩ := hBx 0 _ rfl
  obtain ⟨x1, g1⟩ := hBx 1 _ rfl
  obtain ⟨C0, D0⟩ := (hB.on hal) 0 _ rfl
  have hlN : ∀ j, F j → j < w.heap.size → j ≠ w.heap.size := fun j _ h => by omega
  cases mv with
  | none =>
    have hE : E = [] := by
      rcases h.m with ⟨_, e⟩ | ⟨b, e, _⟩
      · exact List.eq_nil_of_length_eq_zero (by have := congrArg List.length e; simpa [esV] using this)
      · cases e
    subst hE
    have hmm := @run_makeMap Try.prog
    have hsz : (w.alloc (.cells #[sv, .int .i64 (sn : Int)] 92)).heap.size = w.heap.size + 1 := by simp
    have hal2 : Below (w.heap.size + 1) (w.alloc (.cells #[sv, .int .i64 (sn : Int)] 92)) ((w.alloc (.cells #[sv, .int .i64 (sn : Int)] 92)).alloc (.map #[] 0)) := (Below.refl _ _).alloc (by simp) _
    have ho0 := World.ownsMap_made (w.alloc (.cells #[sv, .int .i64 (sn : Int)] 92)) Try.prog 3 hR
    rw [hsz] at ho0
    have C1 := (hal2.cell (p := ⟨X, 0, none⟩) (show X < w.heap.size + 1 by omega)).trans C0
    have D1 := (hal2.frozen (p := ⟨X, 0, none⟩) (show X < w.heap.size + 1 by omega)).trans D0
    have y0 := (hal2.cell (p := ⟨w.heap.size, 0, none⟩) (Nat.lt_succ_self _)).trans x0
    have y1 := (hal2.cell (p := ⟨w.heap.size, 1, none⟩) (Nat.lt_succ_self _)).trans x1
    have hbw : Below w.heap.size w ((w.alloc (.cells #[sv, .int .i64 (sn : Int)] 92)).alloc (.map #[] 0)) := hal.trans (hal2.mono (by omega))
    have hb2 := hB.on hbw
    have hs2 := ownD_keep hs (fun g hg => hbw.block g (ownsRow_lt hs g hg).2)
    have hsz2 : ((w.alloc (.cells #[sv, .int .i64 (sn : Int)] 92)).alloc (.map #[] 0)).heap.size = w.heap.size + 2 := by simp
    obtain ⟨W, hW⟩ : ∃ W, (w.alloc (.cells #[sv, .int .i64 (sn : Int)] 92)).alloc (.map #[] 0) = W := ⟨_, rfl⟩
    rw [hW] at ho0 C1 D1 y0 y1 hbw hb2 hs2 hsz2
    have ho1 : (W.setCell ⟨X, 0, none⟩ (.map (some (w.heap.size + 1)))).drew.ownsMap Try.prog 3 hR (w.heap.size + 1) ([] : List (Int × Value)).length (.map (esD [])) := (ho0.setCell (show w.heap.size + 1 ≠ X by omega) _).drew
    obtain ⟨w2, hr2, ho2, ht2⟩ := dl_some (n := n) (v := cv (sv, sb, sn)) ho1 List.Pairwise.nil (by simp) hn
    have hP3 : PRx (W.setCell ⟨X, 0, none⟩ (.map (some (w.heap.size + 1)))).drew X (nF F w) (some (w.heap.size + 1)) [] n :=
      ⟨List.Pairwise.nil, .inr ⟨_, rfl, ho1⟩, fun b hb => by cases hb; exact ⟨.inr (by omega), by omega⟩, fun x hx => absurd hx (by simp), List.Pairwise.nil⟩
    have hs3 : Own (W.setCell ⟨X, 0, none⟩ (.map (some (w.heap.size + 1)))).drew 0 5 sv sb := ownD_keep hs2 (fun g hg => Below.heap_setCell _ _ _ _ (fun e => (hf g hg).2 e))
    have hfin := hP3.put ho2 ht2 hs3 (fun g hg => ⟨.inl (hf g hg).1, (hf g hg).2⟩) (fun x hx => absurd hx (by simp))
    have hb3 : Bn (W.setCell ⟨X, 0, none⟩ (.map (some (w.heap.size + 1)))).drew X (.map (some (w.heap.size + 1)) :: cs) := hb2.set (i := 0) (by simp) _
    have hb4 : Bn w2 X (.map (some (w.heap.size + 1)) :: cs) := hb3.blk (ht2.grown.block X (by show X < (W.setCell _ _).heap.size; simp; omega) (fun e => by have := Option.some.inj e; omega))
    have hk : Kf F w w2 := (((Kf.of hbw (Nat.le_refl _)).set hX _).drew).transN (Kf.grown ht2.grown (fun k hk => by have := Option.some.inj hk; subst this; exact Or.inr (by omega)))
    have E0 : (W.setCell ⟨X, 0, none⟩ (.map (some (w.heap.size + 1)))).cell? ⟨X, 0, none⟩ = some (.map (some (w.heap.size + 1))) := cell_same4 C1
    have E1 : (W.setCell ⟨X, 0, none⟩ (.map (some (w.heap.size + 1)))).cell? ⟨w.heap.size, 0, none⟩ = some sv := cell_far4 (by omega) y0
    have E2 : (W.setCell ⟨X, 0, none⟩ (.map (some (w.heap.size + 1)))).cell? ⟨w.heap.size, 1, none⟩ = some (.int .i64 (sn : Int)) := cell_far4 (by omega) y1
    have V0 : (W.setCell ⟨X, 0, none⟩ (.map (some (w.heap.size + 1)))).drew.cell? ⟨X, 0, none⟩ = some (.map (some (w.heap.size + 1))) := E0
    have V1 : (W.setCell ⟨X, 0, none⟩ (.map (some (w.heap.size + 1)))).drew.cell? ⟨w.heap.size, 0, none⟩ = some sv := E1
    have V2 : (W.setCell ⟨X, 0, none⟩ (.map (some (w.heap.size + 1)))).drew.cell? ⟨w.heap.size, 1, none⟩ = some (.int .i64 (sn : Int)) := E2
    have Z0 : w2.cell? ⟨X, 0, none⟩ = some (.map (some (w.heap.size + 1))) := (World.cell?_of_block (a := ⟨X, 0, none⟩) (ht2.grown.block X (by show X < (W.setCell _ _).heap.size; simp; omega) (fun e => by have := Option.some.inj e; omega))).trans E0
    have Z1 : w2.cell? ⟨w.heap.size, 0, none⟩ = some sv := (World.cell?_of_block (a := ⟨w.heap.size, 0, none⟩) (ht2.grown.block w.heap.size (by show w.heap.size < (W.setCell _ _).heap.size; simp; omega) (fun e => by have := Option.some.inj e; omega))).trans E1
    have Z2 : w2.cell? ⟨w.heap.size, 1, none⟩ = some (.int .i64 (sn : Int)) := (World.cell?_of_block (a := ⟨w.heap.size, 1, none⟩) (ht2.grown.block w.heap.size (by show w.heap.size < (W.setCell _ _).heap.size; simp; omega) (fun e => by have := Option.some.inj e; omega))).trans E2
    have HF := hideD (And.intro hb4 (And.intro hfin hk))
    clear ho0 ho1 ho2 ht2 hP3 hs2 hs3 hfin hb2 hb3 hb4 hk hbw hB h hs hs' hal2 hal hBx hf ha hmono y0 y1
    unfold cv at hr2
    have hq := eqlNil
    go_enter Try.func53, Try.ntmps53
    unfold cv
    go_wp2
    go_region_held_law (fun w' => w'.cell? ⟨X, 0, none⟩ = some (.map (some (w.heap.size + 1))) ∧ w'.cell? ⟨w.heap.size, 0, none⟩ = some sv ∧ w'.cell? ⟨w.heap.size, 1, none⟩ = some (.int .i64 (sn : Int)))
      (first | (with_reducible exact ⟨E0, E1, E2⟩) | (with_reducible exact ⟨Z0, Z1, Z2⟩) | (with_reducible exact ⟨V0, V1, V2⟩)) (fail)
    go_end0
    exact ⟨rfl, ⟨_, HF.out.1, HF.out.2.1⟩, HF.out.2.2⟩
  | some b =>
    have ho : w.ownsMap Try.prog 3 hR b (esV E).length (.map (esD (esV E))) := by
      rcases h.m with ⟨e, _⟩ | ⟨b', e, ho⟩
      · cases e
      · cases e
        exact ho
    have ho1 := ((ho.alloc (.cells #[sv, .int .i64 (sn : Int)] 92)).drew)
    obtain ⟨w2, hr2, ho2, ht2⟩ := dl_some (v := cv (sv, sb, sn)) ho1 (ris_esV h.r) (by rw [esV_len]; exact hl) hn
    have hP3 : PRx (w.alloc (.cells #[sv, .int .i64 (sn : Int)] 92)).drew X (nF F w) (some b) E n := (h.on hal (fun j _ hj => Or.inl hj)).keep (fun _ _ h => h) (fun _ _ _ => rfl) (fun _ _ _ _ _ _ => rfl)
    have hfin := hP3.put ho2 ht2 hs' (fun g hg => ⟨.inl (hf g hg).1, (hf g hg).2⟩) ha
    have hbX := (h.fm b rfl).2
    have hb4 : Bn w2 X (.map (some b) :: cs) := (hB.on hal).blk (ht2.grown.block X (by show X < (w.alloc _).heap.size; simp; omega) (fun e => hbX (Option.some.inj e).symm))
    have hk : Kf F w w2 := ((Kf.of hal (Nat.le_refl _)).drew).trans (Kf.grown ht2.grown (fun k hk => by have := Option.some.inj hk; subst this; exact (h.fm _ rfl).1))
    have hbl := ho.lt
    have V0 : (w.alloc (.cells #[sv, .int .i64 (sn : Int)] 92)).drew.cell? ⟨X, 0, none⟩ = some (.map (some b)) := C0
    have V1 : (w.alloc (.cells #[sv, .int .i64 (sn : Int)] 92)).drew.cell? ⟨w.heap.size, 0, none⟩ = some sv := x0
    have V2 : (w.alloc (.cells #[sv, .int .i64 (sn : Int)] 92)).drew.cell? ⟨w.heap.size, 1, none⟩ = some (.int .i64 (sn : Int)) := x1
    have Z0 : w2.cell? ⟨X, 0, none⟩ = some (.map (some b)) := (World.cell?_of_block (a := ⟨X, 0, none⟩) (ht2.grown.block X (by show X < (w.alloc _).heap.size; simp; omega) (fun e => hbX (Option.some.inj e).symm))).trans C0
    have Z1 : w2.cell? ⟨w.heap.size, 0, none⟩ = some sv := (World.cell?_of_block (a := ⟨w.heap.size, 0, none⟩) (ht2.grown.block w.heap.size (by show w.heap.size < (w.alloc _).heap.size; simp) (fun e => by have := Option.some.inj e; omega))).trans x0
    have Z2 : w2.cell? ⟨w.heap.size, 1, none⟩ = some (.int .i64 (sn : Int)) := (World.cell?_of_block (a := ⟨w.heap.size, 1, none⟩) (ht2.grown.block w.heap.size (by show w.heap.size < (w.alloc _).heap.size; simp) (fun e => by have := Option.some.inj e; omega))).trans x1
    have HF := hideD (And.intro hb4 (And.intro hfin hk))
    clear ho ho1 ho2 ht2 hP3 hs' hfin hb4 hk hal hB h hs hBx hf ha hmono
    unfold cv at hr2
    have hq := eqlSome b
    go_enter Try.func53, Try.ntmps53
    unfold cv
    go_wp2
    go_region_held_law (fun w' => w'.cell? ⟨X, 0, none⟩ = some (.map (some b)) ∧ w'.cell? ⟨w.heap.size, 0, none⟩ = some sv ∧ w'.cell? ⟨w.heap.size, 1, none⟩ = some (.int .i64 (sn : Int)))
      (first | (with_reducible exact ⟨C0, x0, x1⟩) | (with_reducible exact ⟨Z0, Z1, Z2⟩) | (with_reducible exact ⟨V0, V1, V2⟩)) (fail)
    go_end0
    exact ⟨rfl, ⟨_, HF.out.1, HF.out.2.1⟩, HF.out.2.2⟩

theorem slice_form {w : World} {base e : Nat} {v : Value} {xs : List Int} (h : Own w base e v xs) : ∃ a cap, v = .slice a xs.length cap ∧ xs.length ≤ cap ∧ cap ≤ maxLen := by
  rcases h.2 with ⟨h1, h2⟩ | ⟨g, cap, cur, h1, _, _, h3, h4, _⟩
  · exact ⟨none, 0, by rw [h1, h2], by omega, by simp [maxLen]⟩
  · exact ⟨_, _, h1, h3, h4⟩
theorem PR.del {w w' : World} {X b : Nat} {F : Nat → Prop} {E : List (Int × Sv)} {n : Int} (h : PR w X F (some b) E) (ho : w'.ownsMap Try.prog 3 hR b (dl n (esV E)).length (.map (esD (dl n (esV E))))) (ht : w.mapTurned w' b) : PR w' X F (some b) (dl n E) := by
  obtain ⟨es0, cl0, es1, cl1, hb0, _⟩ := id ht
  have hkeep : ∀ {v : Value} {xs : List Int}, Own w 0 5 v xs → Own w' 0 5 v xs := fun {v xs} hv => ownD_keep hv (fun g hg => ht.grown.block g (ownsRow_lt hv g hg).2 (fun e => by
    have e : g = b := Option.some.inj e
    subst e
    rcases hv.2 with ⟨rfl, _⟩ | ⟨g', cap, cur, rfl, _, hc, _⟩
    · simp [Value.ownBlock] at hg
    · have : g' = g := by simpa [Value.ownBlock] using hg
      subst this
      rw [hb0] at hc
      cases hc))
  exact ⟨ris_dl h.r, .inr ⟨b, rfl, by rw [← esV_dl]; exact ho⟩, h.fm, fun x hx => ⟨hkeep (h.s x (mem_dl.1 hx).1).1, (h.s x (mem_dl.1 hx).1).2⟩, h.a.filter _⟩
set_option maxRecDepth 100000 in
set_option maxHeartbeats 4000000 in
theorem dremove_any {w : World} {X b : Nat} {F : Nat → Prop} {E : List (Int × Sv)} {cs : List Value} {n u : Int} {s : Sv} (h : PR w X F (some b) E) (hB : Bn w X (.map (some b) :: .int .i64 u :: cs)) (hX : F X) (hn : (Lit.int .i64 n).wf = true)
    (hs : Own w 0 5 s.1 s.2.1) (hu1 : (s.2.1.length : Int) ≤ u) (hu2 : u ≤ 9223372036854775807) :
    Calls Try.prog 69 #[.pointer (some ⟨X, 0, none⟩), .int .i64 n, cv s] w fun e w' => e = .returned (.tuple #[]) ∧ Bn w' X (.map (some b) :: .int .i64 (u - (s.2.1.length : Int)) :: cs) ∧ PR w' X F (some b) (dl n E) ∧ Kf (fun j => j = X ∨ j = b) w w' := by
  have hXl := hB.lt
  have hal : Below w.heap.size w (w.alloc (.cells #[s.1, .int .i64 (s.2.2 : Int)] 92)) := (Below.refl _ _).alloc (Nat.le_refl _) _
  have hBx := Bn.new w [s.1, .int .i64 (s.2.2 : Int)] 92 _ rfl
  obtain ⟨sv, sb, sn⟩ := s
  simp only at *
  obtain ⟨a0, cap0, rfl, hlc, hcm⟩ := slice_form hs
  have ho : w.ownsMap Try.prog 3 hR b (esV E).length (.map (esD (esV E))) := by
    rcases h.m with ⟨e, _⟩ | ⟨b', e, ho⟩
    · cases e
    · cases e
      exact ho
  have ho1 := ho.alloc (.cells #[.slice a0 sb.length cap0, .int .i64 (sn : Int)] 92)
  obtain ⟨C0, D0⟩ := (hB.on hal) 0 _ rfl
  have hbX := (h.fm b rfl).2
  have hwr : IntKind.i64.wrap (u - (sb.length : Int)) = u - (sb.length : Int) := by rw [IntKind.wrap_i64]; omega
  have hP1 := h.on hal
  have hK := keyI hn
  have HF : ∀ w2, w2.ownsMap Try.prog 3 hR b (esV E).length ((DataW.map (esD (esV E))).del (.int .i64 n)) → (w.alloc (.cells #[.slice a0 sb.length cap0, .int .i64 (sn : Int)] 92)).mapTurned w2 b →
      Bn w2 X (.map (some b) :: .int .i64 u :: cs) ∧ Bn w2 w.heap.size [.slice a0 sb.length cap0, .int .i64 (sn : Int)] ∧ PR w2 X F (some b) (dl n E) ∧ Kf (fun j => j = X ∨ j = b) w w2 := fun w2 ho2 ht2 => by
    rw [delD] at ho2
    have hbl := ho.lt
    refine ⟨(hB.on hal).blk (ht2.grown.block X (by show X < (w.alloc _).heap.size; simp; omega) (fun e => hbX (Option.some.inj e).symm)), hBx.blk (ht2.grown.block w.heap.size (by show w.heap.size < (w.alloc _).heap.size; simp) (fun e => by have := Option.some.inj e; omega)), hP1.del (ownsMap_tight ho2) ht2, ?_⟩
    exact (Kf.of hal (Nat.le_refl _)).trans (Kf.grown ht2.grown (fun k hk => .inr (Option.some.inj hk).symm))
  have HF := hideD HF
  clear ho hs hP1 h hB hBx hal hn
  go_enter Try.func69, Try.ntmps69
  unfold cv
  go_wp2_with (first
    | (at_delete; refine wpList_delete_own _ rfl _ _ 66 3 rfl 92 (int_keyed Try.underlying3) Try.underlying66 hR b (esV E).length (.map (esD (esV E))) rfl ho1 _ _ rfl hK ?_; intro w2 ho2 ht2; obtain ⟨g1, g2, g3, g4⟩ := HF.out w2 ho2 ht2; clear ho1 HF ho2 ht2; obtain ⟨y1, z1⟩ := g1 1 _ rfl; obtain ⟨x0, _⟩ := g2 0 _ rfl)
    | fail)
  go_region_law (fail)
  all_goals
    go_end0
    exact ⟨rfl, g1.set (i := 1) (by simp) _, (g3.setX _).keep (fun _ _ _ _ => rfl), (g4.set (.inl rfl) _).drew⟩

theorem dfind_res {w : World} {R : Nat} {a b x : Value} {tmps : Array Value} (hR : Bn w R [a, b]) (ht : tmps.getD 4 undef = .pointer (some ⟨R, 0, none⟩)) (hx : tmps.getD 5 undef = x) : (results Try.f58 tmps).run Try.prog w = .ok (.tuple #[.agg #[a, b], x]) w := by
  obtain ⟨c0, _⟩ := hR 0 _ rfl
  obtain ⟨c1, _⟩ := hR 1 _ rfl
  have ht' : tmps[4]?.getD undef = .pointer (some ⟨R, 0, none⟩) := by simpa using ht
  have hx' : tmps[5]?.getD undef = x := by simpa using hx
  simp [results, Try.results58, go_sem, ht', hx', c0, c1]
theorem doper_res {w : World} {R : Nat} {a b x : Value} {tmps : Array Value} (hR : Bn w R [a, b]) (ht : tmps.getD 4 undef = .pointer (some ⟨R, 0, none⟩)) (hx : tmps.getD 5 undef = x) : (results Try.f68 tmps).run Try.prog w = .ok (.tuple #[.agg #[a, b], x]) w := by
  obtain ⟨c0, _⟩ := hR 0 _ rfl
  obtain ⟨c1, _⟩ := hR 1 _ rfl
  have ht' : tmps[4]?.getD undef = .pointer (some ⟨R, 0, none⟩) := by simpa using ht
  have hx' : tmps[5]?.getD undef = x := by simpa using hx
  simp [results, Try.results68, go_sem, ht', hx', c0, c1]
/-- What lies in a segment, and the error. -/
def fdE (dead : Bool) (n : Int) (E : List (Int × Sv)) : Sv × Int := if dead then (zC, 8) else match lk n E with | none => (zC, 5) | some s => (s, 0)
theorem Bn2.new {w : World} (a b : Value) : Bn (w.alloc (.cells #[a, b] 92)) w.heap.size [a, b] := Bn.new w [a, b] _ _ rfl
set_option maxRecDepth 100000 in
set_option maxHeartbeats 4000000 in
theorem dfind_any {w : World} {X : Nat} {F : Nat → Prop} {d : Dk} {mv : Option Nat} {E : List (Int × Sv)} (h : PDE w X F d mv E) {n : Int} (hn : (Lit.int .i64 n).wf = true) :
    Calls Try.prog 58 #[.pointer (some ⟨X, 0, none⟩), .int .i64 n] w fun e w' => e = .returned (.tuple #[cv (fdE d.dead n E).1, .int .i64 (fdE d.dead n E).2]) ∧ Below w.heap.size w w' := by
  obtain ⟨fz, h1, h2, h3, h4, h5⟩ := h
  have hXl := h4.lt
  have hal : Below w.heap.size w (w.alloc (.cells #[.slice none 0 0, .int .i64 0] 92)) := (Below.refl _ _).alloc (Nat.le_refl _) _
  have hB1 := h4.on hal
  have hR1 : Bn (w.alloc (.cells #[.slice none 0 0, .int .i64 0] 92)) w.heap.size [.slice none 0 0, .int .i64 0] := Bn2.new _ _
  obtain ⟨r0, q0⟩ := hR1 0 _ rfl
  obtain ⟨r1, q1⟩ := hR1 1 _ rfl
  obtain ⟨c0, f0⟩ := hB1 0 _ rfl
  obtain ⟨c3, f3⟩ := hB1 3 _ rfl
  have hlook := (h3.on hal).m.lookOk hn
  have hsl : ∀ s, lk n E = some s → ∃ a cap, s.1 = .slice a s.2.1.length cap := fun s hs => by
    obtain ⟨a, cap, e, _, _⟩ := slice_form (h3.s _ (lk_mem hs)).1
    exact ⟨a, cap, e⟩
  have hsz : (w.alloc (.cells #[.slice none 0 0, .int .i64 0] 92)).heap.size = w.heap.size + 1 := by simp
  clear h2 h3 h4
  by_cases hd : d.dead = true
  · have e : fdE d.dead n E = (zC, 8) := if_pos hd
    rw [e]
    rw [hd] at c3
    clear hlook e hsl
    go_enter Try.func58, Try.ntmps58
    go_upto_region 1 with fail
    generalize w.alloc (.cells #[.slice none 0 0, .int .i64 0] 92) = w1 at *
    have HR := hideD (show ∀ u v : Value, Bn ((w1.setCell ⟨w.heap.size, 0, none⟩ u).setCell ⟨w.heap.size, 1, none⟩ v) w.heap.size [u, v] from fun u v => (hR1.set (i := 0) (by simp) u).set (i := 1) (by simp) v)
    have HS := hideD (show ∀ u v : Value, Below w.heap.size w ((w1.setCell ⟨w.heap.size, 0, none⟩ u).setCell ⟨w.heap.size, 1, none⟩ v) from fun u v => (hal.setCell (Nat.le_refl _) _).setCell (Nat.le_refl _) _)
    have HB1 := hideD hR1
    have HAL := hideD hal
    clear hB1 hR1 hal
    go_wp2
    exact bodyPost_ret (dfind_res (HR.out _ _) rfl rfl) rfl ⟨rfl, HS.out _ _⟩
  have hd : d.dead = false := by simpa using hd
  rw [hd] at c3
  have e : fdE d.dead n E = match lk n E with | none => (zC, 5) | some s => (s, 0) := if_neg (by simp [hd])
  rw [e]
  clear e
  cases hk : lk n E with
  | none =>
    rw [hk] at hlook
    simp only [Option.getD_none, Option.isSome_none] at hlook ⊢
    unfold cv zC at hlook
    simp only at hlook
    clear hk hsl
    go_enter Try.func58, Try.ntmps58
    go_upto_region 1 with fail
    generalize w.alloc (.cells #[.slice none 0 0, .int .i64 0] 92) = w1 at *
    have HR := hideD (show ∀ u v : Value, Bn ((w1.setCell ⟨w.heap.size, 0, none⟩ u).setCell ⟨w.heap.size, 1, none⟩ v) w.heap.size [u, v] from fun u v => (hR1.set (i := 0) (by simp) u).set (i := 1) (by simp) v)
    have HS := hideD (show ∀ u v : Value, Below w.heap.size w ((w1.setCell ⟨w.heap.size, 0, none⟩ u).setCell ⟨w.heap.size, 1, none⟩ v) from fun u v => (hal.setCell (Nat.le_refl _) _).setCell (Nat.le_refl _) _)
    have HB1 := hideD hR1
    have HAL := hideD hal
    clear hB1 hR1 hal
    go_wp2
    exact bodyPost_ret (dfind_res ((HR.out _ _).on ((Below.refl _ _).alloc (Nat.le_refl _) _)) rfl rfl) rfl ⟨rfl, (HS.out _ _).alloc (by simp; omega) _⟩
  | some s =>
    rw [hk] at hlook
    simp only [Option.getD_some, Option.isSome_some] at hlook ⊢
    obtain ⟨a0, cap0, hs0⟩ := hsl s hk
    obtain ⟨sv, sb, sn⟩ := s
    simp only at hs0
    subst hs0
    unfold cv at hlook
    simp only at hlook
    clear hk hsl
    go_enter Try.func58, Try.ntmps58
    go_upto_region 1 with fail
    generalize w.alloc (.cells #[.slice none 0 0, .int .i64 0] 92) = w1 at *
    have HR := hideD (show ∀ u v : Value, Bn ((w1.setCell ⟨w.heap.size, 0, none⟩ u).setCell ⟨w.heap.size, 1, none⟩ v) w.heap.size [u, v] from fun u v => (hR1.set (i := 0) (by simp) u).set (i := 1) (by simp) v)
    have HS := hideD (show ∀ u v : Value, Below w.heap.size w ((w1.setCell ⟨w.heap.size, 0, none⟩ u).setCell ⟨w.heap.size, 1, none⟩ v) from fun u v => (hal.setCell (Nat.le_refl _) _).setCell (Nat.le_refl _) _)
    have HB1 := hideD hR1
    have HAL := hideD hal
    clear hB1 hR1 hal
    go_wp2
    exact bodyPost_ret (dfind_res ((HR.out _ _).on ((Below.refl _ _).alloc (Nat.le_refl _) _)) rfl rfl) rfl ⟨rfl, (HS.out _ _).alloc (by simp; omega) _⟩

def cF (F : Nat → Prop) (w : World) : Nat → Prop := fun j => F j ∧ j < w.heap.size
theorem PDE.clip {w : World} {X : Nat} {F : Nat → Prop} {d : Dk} {mv : Option Nat} {E : List (Int × Sv)} (h : PDE w X F d mv E) : PDE w X (cF F w) d mv E := h.mono (fun j hj hF => ⟨hF, hj⟩)
theorem PDE.wide {w w0 : World} {X : Nat} {F : Nat → Prop} {d : Dk} {mv : Option Nat} {E : List (Int × Sv)} (h : PDE w X (cF F w0) d mv E) : PDE w X F d mv E := h.mono (fun j hj hF => hF.1)
theorem Kf.wide {F : Nat → Prop} {w0 w w' : World} (h : Kf (cF F w0) w w') : Kf F w w' := h.mono (fun j hF => hF.1)
/-- New blocks stay where only those of F turn that were there. -/
theorem Bn.kf {w w' w0 : World} {Y : Nat} {F : Nat → Prop} {c : Value} {cs : List Value} (h : Bn w Y (c :: cs)) (hk : Kf (cF F w0) w w') (hY : w0.heap.size ≤ Y) : Bn w' Y (c :: cs) := h.blk (hk.block Y h.lt (fun e => by have := e.2; omega))
/-- An operation's segment, and the error. -/
def opE (d : Dk) (n : Int) (E : List (Int × Sv)) : Sv × Int := if (fdE d.dead n E).2 ≠ 0 then (zC, (fdE d.dead n E).2) else if d.fuse = 0 then (zC, 8) else ((fdE d.dead n E).1, 0)
def opD (d : Dk) (n : Int) (E : List (Int × Sv)) : Dk := if (fdE d.dead n E).2 ≠ 0 then d else brn d
theorem fdE_form {d : Dk} {n : Int} {E : List (Int × Sv)} {w : World} {X : Nat} {F : Nat → Prop} {mv : Option Nat} (h : PR w X F mv E) : ∃ a cap, (fdE d.dead n E).1.1 = .slice a (fdE d.dead n E).1.2.1.length cap := by
  unfold fdE
  split
  · exact ⟨none, 0, rfl⟩
  · cases hk : lk n E with
    | none => exact ⟨none, 0, rfl⟩
    | some s =>
      obtain ⟨a, cap, e, _, _⟩ := slice_form (h.s _ (lk_mem hk)).1
      exact ⟨a, cap, e⟩
set_option maxRecDepth 100000 in
set_option maxHeartbeats 4000000 in
theorem doper_any {w : World} {X : Nat} {F : Nat → Prop} {d : Dk} {mv : Option Nat} {E : List (Int × Sv)} (h0 : PDE w X F d mv E) (hd : d.fuse ≤ 9223372036854775807) {n : Int} (hn : (Lit.int .i64 n).wf = true) :
    Calls Try.prog 68 #[.pointer (some ⟨X, 0, none⟩), .int .i64 n] w fun e w' => e = .returned (.tuple #[cv (opE d n E).1, .int .i64 (opE d n E).2]) ∧ PDE w' X F (opD d n E) mv E ∧ Kf F w w' := by
  have h := h0.clip
  have hal : Below w.heap.size w (w.alloc (.cells #[.slice none 0 0, .int .i64 0] 92)) := (Below.refl _ _).alloc (Nat.le_refl _) _
  have hR1 : Bn (w.alloc (.cells #[.slice none 0 0, .int .i64 0] 92)) w.heap.size [.slice none 0 0, .int .i64 0] := Bn2.new _ _
  have hP1 := h.on hal
  have hsz : (w.alloc (.cells #[.slice none 0 0, .int .i64 0] 92)).heap.size = w.heap.size + 1 := by simp
  obtain ⟨a0, cap0, hform⟩ := fdE_form (d := d) (n := n) (by obtain ⟨_, _, _, h3, _⟩ := h; exact h3)
  have hfn := dfind_any hP1 hn
  obtain ⟨⟨fv, fb, fs⟩, fe, hfe⟩ : ∃ (a : Sv) (b : Int), fdE d.dead n E = (a, b) := ⟨_, _, rfl⟩
  obtain ⟨ov, oe, hoe⟩ : ∃ a b, opE d n E = (a, b) := ⟨_, _, rfl⟩
  obtain ⟨od, hod⟩ : ∃ x, opD d n E = x := ⟨_, rfl⟩
  rw [hoe, hod]
  unfold opE at hoe
  unfold opD at hod
  rw [hfe] at hfn hform hoe hod
  simp only at hform hfn hoe hod
  subst hform
  have HOE := hideD hoe
  have HOD := hideD hod
  have HD := hideD hd
  clear hoe hod hfe h h0 hd
  unfold cv at hfn
  go_enter Try.func68, Try.ntmps68
  go_upto_region 1 with fail
  generalize w.alloc (.cells #[.slice none 0 0, .int .i64 0] 92) = w1 at *
  go_upto_region 2 with (first
    | (go_at_call 58; refine hfn.mono ?_; rintro e w2 ⟨rfl, b2⟩; clear hfn)
    | fail)
  have b3 : Below w2.heap.size w2 (w2.alloc (.cells #[.slice a0 fb.length cap0, .int .i64 (fs : Int)] 92)) := (Below.refl _ _).alloc (Nat.le_refl _) _
  have hR3 := (hR1.on b2).on b3
  have hT3 : Bn (w2.alloc (.cells #[.slice a0 fb.length cap0, .int .i64 (fs : Int)] 92)) w2.heap.size [.slice a0 fb.length cap0, .int .i64 (fs : Int)] := Bn2.new _ _
  have hP3 := (hP1.on b2).on b3
  have hl2 := b2.size
  have hbw : Below w.heap.size w (w2.alloc (.cells #[.slice a0 fb.length cap0, .int .i64 (fs : Int)] 92)) := (hal.trans (b2.mono (by omega))).trans (b3.mono (by omega))
  obtain ⟨Z, hZ⟩ : ∃ Z, w2.heap.size = Z := ⟨_, rfl⟩
  rw [hZ] at hT3
  generalize w2.alloc (.cells #[.slice a0 fb.length cap0, .int .i64 (fs : Int)] 92) = w3 at *
  have hZw : w.heap.size < Z := by omega
  simp only [hZ]
  clear hP1 hR1 hal b2 b3 hl2 hsz hZ
  obtain ⟨r0, q0⟩ := hR3 0 _ rfl
  obtain ⟨r1, q1⟩ := hR3 1 _ rfl
  have HR := hideD (show ∀ W u v, Bn W w.heap.size [.slice none 0 0, .int .i64 0] → Bn ((W.setCell ⟨w.heap.size, 0, none⟩ u).setCell ⟨w.heap.size, 1, none⟩ v) w.heap.size [u, v] from fun W u v h => (h.set (i := 0) (by simp) u).set (i := 1) (by simp) v)
  have HP := hideD hP3
  have HB := hideD hbw
  have HR3 := hideD hR3
  have HT3 := hideD hT3
  clear hP3 hbw hR3 hT3
  have hend : ∀ (W : World) (u v : Value) (D : Dk), PDE W X (cF F w) D mv E → Kf (cF F w) w W → PDE ((W.setCell ⟨w.heap.size, 0, none⟩ u).setCell ⟨w.heap.size, 1, none⟩ v) X F D mv E ∧ Kf F w ((W.setCell ⟨w.heap.size, 0, none⟩ u).setCell ⟨w.heap.size, 1, none⟩ v) := fun W u v D h k => by
    refine ⟨(h.keep (fun b hb hlt => ?_)).wide, ?_⟩
    · rw [Below.heap_setCell _ _ _ _ (fun e => by have := hb.2; have : b = w.heap.size := e; omega), Below.heap_setCell _ _ _ _ (fun e => by have := hb.2; have : b = w.heap.size := e; omega)]
    · have k2 : Below w.heap.size W ((W.setCell ⟨w.heap.size, 0, none⟩ u).setCell ⟨w.heap.size, 1, none⟩ v) := ((Below.refl w.heap.size W).setCell (p := ⟨w.heap.size, 0, none⟩) (Nat.le_refl _) u).setCell (p := ⟨w.heap.size, 1, none⟩) (Nat.le_refl _) v
      exact ⟨k2.os.trans k.os, k2.tape.trans k.tape, k2.output.trans k.output, Nat.le_trans k.size k2.size, fun j hj hn => (k2.block j hj).trans (k.block j hj (fun e => hn e.1))⟩
  have HE := hideD hend
  clear hend
  by_cases hf : fe = 0
  · subst hf
    have hbn := dburn_any HP.out HD.out
    by_cases hz : d.fuse = 0
    · rw [if_pos hz] at hbn
      go_wp2_with (first
        | (go_at_call 52; refine hbn.mono ?_; rintro e w4 ⟨rfl, p4, k4⟩; clear hbn; have hR4 := HR3.out.kf k4 (Nat.le_refl _); obtain ⟨r0, q0⟩ := hR4 0 _ rfl; obtain ⟨r1, q1⟩ := hR4 1 _ rfl; have HP4 := hideD p4; have HR4 := hideD hR4; have HK4 := hideD ((Kf.of HB.out (Nat.le_refl _)).trans k4); clear p4 hR4 k4)
        | fail)
      have e1 := HOE.out
      rw [if_neg (by simp), if_pos hz] at e1
      have e2 := HOD.out
      rw [if_neg (by simp)] at e2
      cases e1
      subst e2
      exact bodyPost_ret (doper_res (HR.out _ _ _ HR4.out) rfl rfl) rfl ⟨rfl, HE.out _ _ _ _ HP4.out HK4.out⟩
    · rw [if_neg hz] at hbn
      go_wp2_with (first
        | (go_at_call 52; refine hbn.mono ?_; rintro e w4 ⟨rfl, p4, k4⟩; clear hbn; have hR4 := HR3.out.kf k4 (Nat.le_refl _); have hT4 := HT3.out.kf k4 (Nat.le_of_lt hZw); obtain ⟨r0, q0⟩ := hR4 0 _ rfl; obtain ⟨r1, q1⟩ := hR4 1 _ rfl; obtain ⟨t0, _⟩ := hT4 0 _ rfl; obtain ⟨t1, _⟩ := hT4 1 _ rfl; have HP4 := hideD p4; have HR4 := hideD hR4; have HK4 := hideD ((Kf.of HB.out (Nat.le_refl _)).trans k4); clear p4 hR4 k4 hT4)
        | fail)
      have e1 := HOE.out
      rw [if_neg (by simp), if_neg hz] at e1
      have e2 := HOD.out
      rw [if_neg (by simp)] at e2
      cases e1
      subst e2
      exact bodyPost_ret (doper_res (HR.out _ _ _ HR4.out) rfl rfl) rfl ⟨rfl, HE.out _ _ _ _ HP4.out HK4.out⟩
  · go_wp2
    have e1 := HOE.out
    rw [if_pos hf] at e1
    have e2 := HOD.out
    rw [if_pos hf] at e2
    cases e1
    subst e2
    exact bodyPost_ret (doper_res (HR.out _ _ _ HR3.out) rfl rfl) rfl ⟨rfl, HE.out _ _ _ _ HP.out (Kf.of HB.out (Nat.le_refl _))⟩

theorem lk_own {E : List (Int × Sv)} {w : World} {X : Nat} {F : Nat → Prop} {mv : Option Nat} (h : PR w X F mv E) (n : Int) : Own w 0 5 ((lk n E).getD zC).1 ((lk n E).getD zC).2.1 ∧ (∀ g, ((lk n E).getD zC).1.ownBlock = some g → F g ∧ g ≠ X) ∧ ∀ x ∈ E, x.1 ≠ n → ∀ g, x.2.1.ownBlock = some g → ((lk n E).getD zC).1.ownBlock ≠ some g := by
  cases hk : lk n E with
  | none =>
    refine ⟨World.ownsRow_nil w 0 5 1, fun g hg => ?_, fun x hx hne g hg h => ?_⟩
    · simp [zC, Value.ownBlock] at hg
    · simp [zC, Value.ownBlock] at h
  | some s =>
    have hm := lk_mem hk
    exact ⟨(h.s _ hm).1, (h.s _ hm).2, fun x hx hne g hg hs => apart_ne h.a hx hm (fun e => hne (by rw [e])) g hg hs⟩
theorem dorow_form {w : World} {base e n : Nat} {v : Value} {xs : List Value} (h : w.ownsRow base e 1 v n xs) : ∃ a cap, v = .slice a n cap ∧ n ≤ cap ∧ cap ≤ maxLen := by
  rcases h.2 with ⟨h1, h2⟩ | ⟨g, cap, cur, h1, _, _, h3, h4, _⟩
  · exact ⟨none, 0, by rw [h1, h2], by omega, by simp [maxLen]⟩
  · exact ⟨_, _, h1, h3, h4⟩
theorem lk_lt {β : Type} {n : Int} : ∀ {l : List (Int × β)}, (∀ x ∈ l, n < x.1) → lk n l = none
  | [], _ => rfl
  | y :: r, h => by
    have := h y List.mem_cons_self
    unfold lk
    rw [if_neg (by omega)]
    exact lk_lt (fun x hx => h x (List.mem_cons_of_mem _ hx))
theorem usM_cons (y : Int × Sm) (r : List (Int × Sm)) : usM (y :: r) = y.2.1.length + usM r := by simp [usM]
theorem usM_pt (n : Int) (s : Sm) : ∀ {L : List (Int × Sm)}, Ris L → usM (pt n s L) + ((lk n L).getD ([], 0)).1.length = usM L + s.1.length
  | [], _ => by simp [pt, lk, usM]
  | y :: r, hs => by
    obtain ⟨h1, h2⟩ := List.pairwise_cons.1 hs
    have ih := usM_pt n s h2
    unfold pt lk
    by_cases hlt : n < y.1
    · rw [if_pos hlt, if_neg (by omega), lk_lt (fun x hx => by have := h1 x hx; omega), usM_cons]
      simp
      omega
    · rw [if_neg hlt]
      by_cases he : y.1 = n
      · rw [if_pos he, if_pos he, usM_cons, usM_cons]
        simp
        omega
      · rw [if_neg he, if_neg he, usM_cons, usM_cons]
        omega
theorem usM_app {n : Int} {sb bs : List Int} {sn : Nat} {L : List (Int × Sm)} (hs : Ris L) (h : (lk n L).getD ([], 0) = (sb, sn)) : usM (pt n (sb ++ bs, sn) L) = usM L + bs.length := by
  have := usM_pt n (sb ++ bs, sn) hs
  rw [h, List.length_append] at this
  simp only at this
  omega
theorem usM_mmE {E : List (Int × Sv)} (n : Int) : ((lk n E).getD zC).2.1.length ≤ usM (mmE E) := by
  cases hq : lk n E with
  | none => simp [zC]
  | some s => exact usM_lk (by rw [mmE_lk, hq]; rfl)
theorem Kf.setNew {F : Nat → Prop} {N i : Nat} {a b : World} (h : Kf F a b) (hN : a.heap.size ≤ N) (u : Value) : Kf F a (b.setCell ⟨N, i, none⟩ u) :=
  ⟨h.os, h.tape, h.output, by simpa using h.size, fun k hk hn => (Below.heap_setCell _ _ _ _ (fun e => by have : k = N := e; omega)).trans (h.block k hk hn)⟩
/-- Bytes appended: the disk, the error. -/
def appD (d : Dk) (n : Int) (bs : List Int) : Dk × Int :=
  if d.dead = true then (d, 8) else if n < 0 then (d, 1) else if (bs.length : Int) > d.room - (usM d.L : Int) then (d, 7) else if d.fuse = 0 then (brn d, 8)
  else ({ brn d with L := pt n (((lk n d.L).getD ([], 0)).1 ++ bs, ((lk n d.L).getD ([], 0)).2) d.L }, 0)
theorem brn_L (d : Dk) : (brn d).L = d.L ∧ (brn d).room = d.room := by
  unfold brn
  split
  · exact ⟨rfl, rfl⟩
  · split <;> exact ⟨rfl, rfl⟩
set_option maxRecDepth 100000 in
set_option maxHeartbeats 8000000 in
theorem dapp_any {w : World} {X : Nat} {F : Nat → Prop} {d : Dk} {n : Int} {v : Value} {bs : List Int} (h0 : PD w X F d) (hfu : d.fuse ≤ 9223372036854775807) (hro : 0 ≤ d.room ∧ d.room ≤ 9223372036854775807) (hn : (Lit.int .i64 n).wf = true)
    (hl : d.L.length ≤ 100000) (hu : usM d.L ≤ 1000000) (hb : bs.length ≤ 1000000) (hv : ∀ w1, Kf F w w1 → Rd w1 v bs) :
    Calls Try.prog 26 #[.pointer (some ⟨X, 0, none⟩), .int .i64 n, v] w fun e w' => e = .returned (.int .i64 (appD d n bs).2) ∧ PD w' X (nF F w) (appD d n bs).1 ∧ Kf F w w' := by
  obtain ⟨mv, E, h⟩ := h0
  obtain ⟨fz, h1, h2, h3, h4, h5⟩ := id h
  obtain ⟨va, vc, rfl, hvl, hvm, _⟩ := id (hv w (Kf.refl F w))
  have hXl := h4.lt
  obtain ⟨c1, f1⟩ := h4 1 _ rfl
  obtain ⟨c2, f2⟩ := h4 2 _ rfl
  obtain ⟨c3, f3⟩ := h4 3 _ rfl
  have hwide : PD w X (nF F w) d := ⟨mv, E, h.mono (fun j _ hj => .inl hj)⟩
  unfold appD
  by_cases hd : d.dead = true
  · rw [if_pos hd]
    rw [hd] at c3
    clear h h2 h3 h4 h5
    go_enter Try.func26, Try.ntmps26
    go_wp2
    go_ret
    exact ⟨rfl, hwide, Kf.refl F w⟩
  rw [if_neg hd]
  have hd : d.dead = false := by simpa using hd
  rw [hd] at c3
  by_cases hn0 : n < 0
  · rw [if_pos hn0]
    clear h h2 h3 h4 h5
    go_enter Try.func26, Try.ntmps26
    go_wp2
    go_ret
    exact ⟨rfl, hwide, Kf.refl F w⟩
  rw [if_neg hn0]
  have hw1 : IntKind.i64.wrap (d.room - (usM d.L : Int)) = d.room - (usM d.L : Int) := by rw [IntKind.wrap_i64]; omega
  by_cases hr : (bs.length : Int) > d.room - (usM d.L : Int)
  · rw [if_pos hr]
    clear h h2 h3 h4 h5
    go_enter Try.func26, Try.ntmps26
    go_wp2
    go_quiet (fail)
    go_wp2
    go_ret
    exact ⟨rfl, hwide.keep (fun _ _ _ => rfl), (Kf.refl F w).drewN _⟩
  rw [if_neg hr]
  have hC := h.clip
  have hbn := fun m => dburn_any (w := w.drewN m) (hC.keep (fun _ _ _ => rfl)) hfu
  by_cases hz : d.fuse = 0
  · rw [if_pos hz]
    simp only [if_pos hz] at hbn
    have hkf := fun m => (Kf.refl (cF F w) w).drewN m
    clear h h2 h3 h4 h5 hC
    go_enter Try.func26, Try.ntmps26
    go_wp2
    go_quiet (fail)
    go_wp2_with (first
      | (go_at_call 52; refine (hbn _).mono ?_; rintro e w1 ⟨rfl, p1, k1⟩; clear hbn)
      | fail)
    go_ret
    exact ⟨rfl, ⟨mv, E, p1.wide.mono (fun j _ hj => .inl hj)⟩, ((hkf _).trans k1).wide⟩
  rw [if_neg hz]
  simp only [if_neg hz] at hbn
  have hkf := fun m => (Kf.refl (cF F w) w).drewN m
  have hmm : mmE E = d.L := h2
  have hlE : E.length ≤ 100000 := by rw [← hmm] at hl; simpa [mmE] using hl
  obtain ⟨d', hd'⟩ : ∃ d' : Dk, { brn d with L := pt n (((lk n d.L).getD ([], 0)).1 ++ bs, ((lk n d.L).getD ([], 0)).2) d.L } = d' := ⟨_, rfl⟩
  rw [hd']
  have HD := hideD hd'
  have HV := hideD hv
  clear h h2 h3 h4 h5 hd' hv hwide
  go_enter Try.func26, Try.ntmps26
  go_wp2
  go_quiet (fail)
  go_upto_region 12 with (first
    | (go_at_call 52; refine (hbn _).mono ?_; rintro e w1 ⟨rfl, p1, k1⟩; clear hbn)
    | fail)
  have hk1 := (hkf _).trans k1
  obtain ⟨gz, g1, g2, g3, g4, g5⟩ := id p1
  obtain ⟨a0, a1, a2⟩ := lk_own g3 n
  have hlk := mmE_lk n E
  rw [hmm] at hlk
  have hlook := g3.m.look hn
  obtain ⟨⟨sv, sb, sn⟩, hs0⟩ : ∃ x, (lk n E).getD zC = x := ⟨_, rfl⟩
  have hold : (lk n d.L).getD ([], 0) = (sb, sn) := by
    rw [hlk]
    cases hq : lk n E with
    | none =>
      rw [hq] at hs0
      simp only [Option.getD_none] at hs0
      cases hs0
      rfl
    | some s =>
      rw [hq] at hs0
      simp only [Option.getD_some] at hs0
      subst hs0
      rfl
  rw [hs0] at a0 a1 a2 hlook
  simp only at a0 a1 a2
  obtain ⟨sa, sc, rfl, hsl, hsm⟩ := slice_form a0
  unfold cv at hlook
  simp only at hlook
  obtain ⟨e0, i0⟩ := g4 0 _ rfl
  have hsbl : sb.length ≤ 1000000 := by
    have := usM_mmE (E := E) n
    rw [hs0, hmm] at this
    simp only at this
    omega
  have hal : Below w1.heap.size w1 (w1.alloc (.cells #[.slice sa sb.length sc, .int .i64 (sn : Int)] 92)) := (Below.refl _ _).alloc (Nat.le_refl _) _
  have hB8 : Bn (w1.alloc (.cells #[.slice sa sb.length sc, .int .i64 (sn : Int)] 92)) w1.heap.size [.slice sa sb.length sc, .int .i64 (sn : Int)] := Bn2.new _ _
  have hsz := hk1.size
  have hO2 : Own (w1.alloc (.cells #[.slice sa sb.length sc, .int .i64 (sn : Int)] 92)) 0 5 (.slice sa sb.length sc) sb := ownD_keep a0 (fun g hg => hal.block g (ownsRow_lt a0 g hg).2)
  have hR2 : Rd (w1.alloc (.cells #[.slice sa sb.length sc, .int .i64 (sn : Int)] 92)) (.slice va bs.length vc) bs := HV.out _ (hk1.wide.alloc _)
  have hB2 := g4.on hal
  have hX2 : PRx (w1.alloc (.cells #[.slice sa sb.length sc, .int .i64 (sn : Int)] 92)) X (cF F w) mv E n := (g3.x n).on hal (fun _ _ h => h)
  have hown1 := fun g hg => (ownsRow_lt a0 g hg).2
  have hxlt : ∀ x ∈ E, ∀ g, x.2.1.ownBlock = some g → g < w.heap.size := fun x hx g hg => ((g3.s x hx).2 g hg).1.2
  have hmlt : ∀ b, mv = some b → b < w.heap.size ∧ b ≠ X ∧ b < w1.heap.size ∧ (.slice sa sb.length sc : Value).ownBlock ≠ some b := fun b hb => by
    refine ⟨(g3.fm b hb).1.2, (g3.fm b hb).2, by have := (g3.fm b hb).1.2; omega, fun e => ?_⟩
    rcases g3.m with ⟨e1, _⟩ | ⟨b', e1, ho⟩
    · rw [hb] at e1
      cases e1
    · rw [hb] at e1
      cases e1
      obtain ⟨es, cl, hes, _⟩ := ho
      rcases a0.2 with ⟨e2, _⟩ | ⟨g', cap, cur, e2, _, hc, _⟩
      · rw [e2] at e
        simp [Value.ownBlock] at e
      · rw [e2] at e
        have : g' = b := by simpa [Value.ownBlock] using e
        subst this
        rw [hes] at hc
        cases hc
  have hK2 : Kf F w (w1.alloc (.cells #[.slice sa sb.length sc, .int .i64 (sn : Int)] 92)) := hk1.wide.alloc _
  have hs2 : (w1.alloc (.cells #[.slice sa sb.length sc, .int .i64 (sn : Int)] 92)).heap.size = w1.heap.size + 1 := by simp
  have hris := hideD (ris_mmE g3.r)
  have hg5 := hideD g5
  clear k1 hkf hC hlk hs0 p1 g2 g3 g4 g5 hk1 hal a0
  go_upto_region 13 with fail
  obtain ⟨Z, hZ⟩ : ∃ Z, w1.heap.size = Z := ⟨_, rfl⟩
  simp only [hZ] at hB8 hown1 hsz hs2 hmlt ⊢
  generalize w1.alloc (.cells #[.slice sa sb.length sc, .int .i64 (sn : Int)] 92) = w2 at *
  clear hZ hlook e0 i0
  obtain ⟨t0, k0⟩ := hB8 0 _ rfl
  obtain ⟨i0, hi, hz0, hz1, hz2⟩ := u8_inf
  have hsrc := hR2.src (t := 41) (e := 5) Try.underlying41
  have hO2' : w2.ownsRow 0 5 1 (.slice sa sb.length sc) sb.length (sb.map (Value.int .u8)) := hO2
  have HB8 := hideD hB8
  have HB2 := hideD hB2
  clear hB8 hB2 hO2 hR2
  have hfin : ∀ (vb : Value) (wb : World), wb.ownsRow 0 5 1 vb (sb.length + bs.length) (sb.map (Value.int .u8) ++ bs.map (Value.int .u8)) → w2.grownBy wb (.slice sa sb.length sc : Value).ownBlock → (vb.ownBlock = (.slice sa sb.length sc : Value).ownBlock ∨ vb.ownBlock = some w2.heap.size) →
      ∃ va' vc', vb = .slice va' (sb.length + bs.length) vc' ∧ Bn wb Z [.slice sa sb.length sc, .int .i64 (sn : Int)] ∧ Kf F w (wb.setCell ⟨Z, 0, none⟩ vb) ∧
        Calls Try.prog 53 #[.pointer (some ⟨X, 0, none⟩), .int .i64 n, cv (vb, sb ++ bs, sn)] (wb.setCell ⟨Z, 0, none⟩ vb) fun e w' => e = .returned (.tuple #[]) ∧ (∃ mv', Bn w' X (.map mv' :: [.int .i64 (usM (brn d).L : Int), .int .i64 (brn d).room, .bool (brn d).dead, .bool (decide (0 ≤ (brn d).fuse)), .int .i64 gz]) ∧ PR w' X (nF F w) mv' (pt n (vb, sb ++ bs, sn) E)) ∧ Kf (nF F w) (wb.setCell ⟨Z, 0, none⟩ vb) w' := fun vb wb hOb hgb hat => by
    obtain ⟨va', vc', hvb, _, _⟩ := dorow_form hOb
    have hZb : wb.heap[Z]? = w2.heap[Z]? := hgb.block Z (by omega) (fun e => by have := hown1 Z e.symm; omega)
    have hXb : wb.heap[X]? = w2.heap[X]? := hgb.block X (by omega) (fun e => (a1 X e.symm).2 rfl)
    have hBb := HB8.out.blk hZb
    have hne : ∀ b, b ≠ Z → (wb.setCell ⟨Z, 0, none⟩ vb).heap[b]? = wb.heap[b]? := fun b hb => Below.heap_setCell _ _ _ _ (fun e => hb e)
    have hXs := (HB2.out.blk hXb).far (show Z ≠ X by omega) (i := 0) vb
    have hlen : (sb ++ bs).length = sb.length + bs.length := by simp
    have hvo : Own (wb.setCell ⟨Z, 0, none⟩ vb) 0 5 vb (sb ++ bs) := by
      unfold Own
      rw [hlen, List.map_append]
      exact ownsRow_keep hOb (fun g hg => hne g (fun e => by
        subst e
        rcases hat with h | h
        · rw [h] at hg
          have := hown1 _ hg
          omega
        · rw [h] at hg
          have := Option.some.inj hg
          omega))
    have hvf : ∀ g, vb.ownBlock = some g → nF F w g ∧ g ≠ X := fun g hg => by
      rcases hat with h | h
      · rw [h] at hg
        exact ⟨.inl (a1 g hg).1.1, (a1 g hg).2⟩
      · rw [h] at hg
        have := Option.some.inj hg
        exact ⟨.inr (by omega), by omega⟩
    have hap : ∀ x ∈ E, x.1 ≠ n → ∀ g, x.2.1.ownBlock = some g → vb.ownBlock ≠ some g := fun x hx hne g hg e => by
      rcases hat with h | h
      · rw [h] at e
        exact a2 x hx hne g hg e
      · rw [h] at e
        have := Option.some.inj e
        have := hxlt x hx g hg
        omega
    have hPx : PRx (wb.setCell ⟨Z, 0, none⟩ vb) X (nF F w) mv E n := hX2.keep (fun j _ hj => .inl hj.1)
      (fun b hb hlt => by
        obtain ⟨m1, m2, m3, m4⟩ := hmlt b hb
        rw [hne b (by omega)]
        exact hgb.block b hlt (fun e => m4 e.symm))
      (fun x hx hxn g hg hlt => by
        have := hxlt x hx g hg
        rw [hne g (by omega)]
        exact hgb.block g hlt (fun e => a2 x hx hxn g hg e.symm))
    have hc := dput_any (s := (vb, sb ++ bs, sn)) hPx hXs (.inl h1) hn hlE hvo hvf hap
    refine ⟨va', vc', hvb, hBb, (hK2.trans (Kf.grown hgb (fun k hk => (a1 k hk).1.1))).setNew (by omega) _, hc.mono ?_⟩
    rintro e w' ⟨rfl, ⟨mv', q1, q2⟩, q3⟩
    refine ⟨rfl, ⟨mv', q1, q2.mono (fun j _ hj => hj.elim id (fun h => .inr ?_))⟩, q3⟩
    have h1 := hgb.size
    have h2 : (wb.setCell ⟨Z, 0, none⟩ vb).heap.size = wb.heap.size := by simp
    omega
  have HF := hideD hfin
  clear hfin hX2 hmlt
  go_wp2_with (first
    | (at_builtin; refine wpList_append_at _ rfl _ _ 41 41 rfl 0 5 i0 (.int .u8 0) 1 1 Try.underlying41 hi hz0 hz1 hz2 rfl (.slice sa sb.length sc) sb.length _ rfl hO2' _ _ _ rfl hsrc bs.length (.inr (by omega)) (Nat.le_refl _) (by unfold maxLen; omega) (Nat.zero_le _) ?_; intro vb wb hOb hgb hat; obtain ⟨va', vc', rfl, hBb, hKb, hput⟩ := HF.out vb wb hOb hgb hat; obtain ⟨b0, j0⟩ := hBb 0 _ rfl; obtain ⟨b1, j1⟩ := hBb 1 _ rfl; clear HF hO2' hsrc t0 k0 hat hgb hOb; unfold cv at hput; simp only at hput)
    | (go_at_call 53; refine hput.mono ?_; rintro e w4 ⟨rfl, ⟨mv', q1, q2⟩, q3⟩; clear hput; obtain ⟨x1, y1⟩ := q1 1 _ rfl)
    | fail)
  go_ret
  have hwr : wrap64 ((usM (brn d).L : Int) + (bs.length : Int)) = (usM d.L : Int) + (bs.length : Int) := by
    rw [(brn_L d).1]
    unfold wrap64
    omega
  rw [hwr]
  have hD := HD.out
  rw [hold] at hD
  have hus2 := usM_app (bs := bs) (show Ris d.L by rw [← hmm]; exact hris.out) hold
  have hq := q1.set (i := 1) (by simp) (.int .i64 ((usM d.L : Int) + (bs.length : Int)))
  refine ⟨rfl, ⟨mv', pt n (.slice va' (sb.length + bs.length) vc', sb ++ bs, sn) E, gz, .inl h1, ?_, q2.setX _, ?_, ?_⟩, (hKb.transN q3).set h1 _⟩
  · rw [mmE_pt, hmm, ← hD]
  · rw [← hD]
    simp only
    rw [hus2]
    exact hq
  · rw [← hD]
    exact hg5.out

theorem rd_on {w w' : World} {v : Value} {xs : List Int} (h : Rd w v xs) (hb : Below w.heap.size w w') : Rd w' v xs := by
  obtain ⟨a, c, rfl, hc, hm, hnil, hcell⟩ := h
  exact ⟨a, c, rfl, hc, hm, hnil, fun x hx i hi => (hb.cell (p := x.add i) (World.block_lt_of_cell? w _ (hcell x hx i hi))).trans (hcell x hx i hi)⟩
set_option maxRecDepth 100000 in
set_option maxHeartbeats 2000000 in
theorem clone_any {w : World} {v : Value} {bs : List Int} (h : Rd w v bs) (hb : bs.length ≤ 1000000) :
    Calls Try.prog 59 #[v] w fun e w' => (∃ v', e = .returned v' ∧ Own w' w.heap.size 5 v' bs) ∧ Below w.heap.size w w' := by
  have q22 : ∀ (w : World) (a : Option Addr) (n c n' c' : Nat), (binOp .eql 41 (.slice a n c) (.slice none n' c')).run Try.prog w = .ok (.bool a.isNone) w := fun w a n c n' c' => Lib.run_eql_slice_nil w _ _ a n c n' c' Try.underlying41
  obtain ⟨a, c, rfl, hc, hm, hnil, hcell⟩ := id h
  cases a with
  | none =>
    obtain ⟨rfl, rfl⟩ := hnil rfl
    clear hcell h
    go_enter Try.func59, Try.ntmps59
    go_wp2
    go_ret
    exact ⟨⟨_, rfl, World.ownsRow_nil w _ 5 1⟩, Below.refl _ w⟩
  | some a =>
    obtain ⟨i0, hi, hz0, hz1, hz2⟩ := u8_inf
    have hal : Below w.heap.size w (w.alloc (.cells #[] 5)) := (Below.refl _ _).alloc (Nat.le_refl _) _
    have hR := rd_on h hal
    have hsrc := hR.src (t := 41) (e := 5) Try.underlying41
    have hown : (w.alloc (.cells #[] 5)).ownsRow w.heap.size 5 1 (.slice (some ⟨w.heap.size, 0, none⟩) 0 0) 0 [] := World.ownsRow_made w #[] 0 (Nat.le_refl _) (Nat.zero_le _) rfl
    clear hcell h hR hnil
    go_enter Try.func59, Try.ntmps59
    go_wp2_with (first
      | (at_builtin; refine wpList_append_at _ rfl _ _ 41 41 rfl w.heap.size 5 i0 (.int .u8 0) 1 1 Try.underlying41 hi hz0 hz1 hz2 rfl _ 0 _ rfl hown _ _ _ rfl hsrc bs.length (.inr (by omega)) (Nat.le_refl _) (by unfold maxLen; omega) (by simp) ?_; intro vb wb hOb hgb hat; clear hown hsrc)
      | fail)
    go_ret
    refine ⟨⟨_, rfl, ?_⟩, hal.grown hgb (by simp) (fun k hk => by have : w.heap.size = k := Option.some.inj hk; omega)⟩
    unfold Own
    simpa using hOb
theorem zC_rd (w : World) : Rd w zC.1 zC.2.1 := ⟨none, 0, rfl, by simp [zC], by simp [maxLen], fun _ => ⟨rfl, rfl⟩, fun x hx => by cases hx⟩
set_option maxRecDepth 100000 in
set_option maxHeartbeats 2000000 in
/-- Read, by what find answers. -/
theorem dread_by {w : World} {p : Value} {n : Int} {s : Sv} {x : Int} (hf : Calls Try.prog 58 #[p, .int .i64 n] w fun e w' => e = .returned (.tuple #[cv s, .int .i64 x]) ∧ Below w.heap.size w w') (hs : Rd w s.1 s.2.1) (hb : s.2.1.length ≤ 1000000) :
    Calls Try.prog 30 #[p, .int .i64 n] w fun e w' => (∃ v', e = .returned (.tuple #[v', .int .i64 x]) ∧ Own w' w.heap.size 5 v' s.2.1) ∧ Below w.heap.size w w' := by
  obtain ⟨sv, sb, sn⟩ := s
  simp only at hs hb
  obtain ⟨a, c, rfl, hc, hm, _, _⟩ := id hs
  unfold cv at hf
  simp only at hf ⊢
  go_enter Try.func30, Try.ntmps30
  go_upto_region 2 with (first
    | (go_at_call 58; refine hf.mono ?_; rintro e w2 ⟨rfl, b2⟩; clear hf)
    | fail)
  have b3 : Below w2.heap.size w2 (w2.alloc (.cells #[.slice a sb.length c, .int .i64 (sn : Int)] 92)) := (Below.refl _ _).alloc (Nat.le_refl _) _
  have hT := Bn2.new (w := w2) (.slice a sb.length c) (.int .i64 (sn : Int))
  have hR := rd_on (rd_on hs b2) b3
  have hbw := b2.trans (b3.mono b2.size)
  have hsz := hbw.size
  obtain ⟨t0, k0⟩ := hT 0 _ rfl
  have hcl := clone_any hR hb
  clear hR hs b2 hT b3
  obtain ⟨Z, hZ⟩ : ∃ Z, w2.heap.size = Z := ⟨_, rfl⟩
  simp only [hZ] at t0 k0 ⊢
  generalize w2.alloc (.cells #[.slice a sb.length c, .int .i64 (sn : Int)] 92) = w3 at *
  go_wp2_with (first
    | (go_at_call 59; refine hcl.mono ?_; rintro e w4 ⟨⟨v', rfl, ho⟩, b4⟩; clear hcl)
    | fail)
  go_ret2
  exact ⟨⟨_, rfl, ⟨ho.1, ho.2.imp id (fun ⟨g, cap, cur, e1, e2, e3⟩ => ⟨g, cap, cur, e1, Nat.le_trans hsz e2, e3⟩)⟩⟩, hbw.trans (b4.mono hsz)⟩
theorem fd_rd {w : World} {X : Nat} {F : Nat → Prop} {d : Dk} {mv : Option Nat} {E : List (Int × Sv)} (h : PDE w X F d mv E) (n : Int) : Rd w (fdE d.dead n E).1.1 (fdE d.dead n E).1.2.1 ∧ (fdE d.dead n E).1.2.1.length ≤ usM d.L := by
  obtain ⟨fz, h1, h2, h3, h4, h5⟩ := h
  unfold fdE
  split
  · exact ⟨zC_rd w, by simp [zC]⟩
  · cases hk : lk n E with
    | none => exact ⟨zC_rd w, by simp [zC]⟩
    | some s => exact ⟨(h3.s _ (lk_mem hk)).1.rd, by rw [← h2]; exact usM_lk (by rw [mmE_lk, hk]; rfl)⟩
/-- What Read answers: the bytes, the error. -/
def redD (d : Dk) (n : Int) : List Int × Int := if d.dead = true then ([], 8) else match lk n d.L with | none => ([], 5) | some s => (s.1, 0)
theorem fd_red {d : Dk} {E : List (Int × Sv)} (h : mmE E = d.L) (n : Int) : redD d n = ((fdE d.dead n E).1.2.1, (fdE d.dead n E).2) := by
  unfold redD fdE
  by_cases hd : d.dead = true
  · rw [if_pos hd, if_pos hd]
    rfl
  · rw [if_neg hd, if_neg hd, ← h, mmE_lk]
    cases lk n E <;> rfl
theorem dread_any {w : World} {X : Nat} {F : Nat → Prop} {d : Dk} (h : PD w X F d) (hu : usM d.L ≤ 1000000) {n : Int} (hn : (Lit.int .i64 n).wf = true) :
    Calls Try.prog 30 #[.pointer (some ⟨X, 0, none⟩), .int .i64 n] w fun e w' => (∃ v', e = .returned (.tuple #[v', .int .i64 (redD d n).2]) ∧ Own w' w.heap.size 5 v' (redD d n).1) ∧ Below w.heap.size w w' := by
  obtain ⟨mv, E, h⟩ := h
  obtain ⟨f1, f2⟩ := fd_rd h n
  have := dread_by (dfind_any h hn) f1 (by omega)
  obtain ⟨fz, h1, h2, h3, h4, h5⟩ := h
  rw [fd_red h2]
  exact this
theorem dk_fld (v : Value) (n : Int) (w : World) : (Instr.field 92 (.agg #[v, .int .i64 n]) 1).run Try.prog w = .ok (.int .i64 n) w := by kernel_rfl
set_option maxRecDepth 100000 in
set_option maxHeartbeats 1000000 in
theorem dsynced_any {w : World} {X : Nat} {F : Nat → Prop} {d : Dk} (h : PD w X F d) {n : Int} (hn : (Lit.int .i64 n).wf = true) :
    Calls Try.prog 51 #[.pointer (some ⟨X, 0, none⟩), .int .i64 n] w fun e w' => e = .returned (.int .i64 (((lk n d.L).getD ([], 0)).2 : Int)) ∧ w = w' := by
  obtain ⟨mv, E, fz, h1, h2, h3, h4, h5⟩ := h
  obtain ⟨c0, f0⟩ := h4 0 _ rfl
  have hlook := h3.m.look hn
  have e : (lk n d.L).getD ([], 0) = ((lk n E).getD zC).2 := by
    rw [← h2, mmE_lk]
    cases lk n E <;> rfl
  rw [e]
  obtain ⟨⟨sv, sb, sn⟩, hs⟩ : ∃ s, (lk n E).getD zC = s := ⟨_, rfl⟩
  rw [hs] at hlook ⊢
  unfold cv at hlook
  simp only at hlook ⊢
  clear h2 h3 h4 h5 e hs
  go_enter Try.func51, Try.ntmps51
  have hfl := dk_fld sv
  go_wp2
  go_ret
  exact ⟨rfl, rfl⟩


/-- An operation on a segment that is there: the disk, the error. -/
def opM (d : Dk) (n : Int) (f : Sm → Dk) : Dk × Int := if d.dead = true then (d, 8) else match lk n d.L with | none => (d, 5) | some s => if d.fuse = 0 then (brn d, 8) else (f s, 0)
theorem op_cases {d : Dk} {E : List (Int × Sv)} (h : mmE E = d.L) (n : Int) :
    (∃ s, lk n E = some s ∧ opE d n E = (s, 0) ∧ opD d n E = brn d ∧ ∀ f, opM d n f = (f s.2, 0)) ∨ (∃ e, e ≠ 0 ∧ opE d n E = (zC, e) ∧ ∀ f, opM d n f = (opD d n E, e)) := by
  by_cases hd : d.dead = true
  · have e1 : fdE d.dead n E = (zC, 8) := if_pos hd
    refine .inr ⟨8, by decide, ?_, fun f => ?_⟩
    · unfold opE
      rw [e1]
      rfl
    · unfold opM opD
      rw [e1, if_pos hd]
      rfl
  · have e0 : fdE d.dead n E = match lk n E with | none => (zC, 5) | some s => (s, 0) := if_neg hd
    have e2 : lk n d.L = (lk n E).map (·.2) := by rw [← h, mmE_lk]
    cases hk : lk n E with
    | none =>
      rw [hk] at e0 e2
      simp only [Option.map_none] at e0 e2
      refine .inr ⟨5, by decide, ?_, fun f => ?_⟩
      · unfold opE
        rw [e0]
        rfl
      · unfold opM opD
        rw [e0, if_neg hd, e2]
        rfl
    | some s =>
      rw [hk] at e0 e2
      simp only [Option.map_some] at e0 e2
      by_cases hz : d.fuse = 0
      · refine .inr ⟨8, by decide, ?_, fun f => ?_⟩
        · unfold opE
          rw [e0, if_neg (by simp), if_pos hz]
        · unfold opM opD
          rw [e0, if_neg hd, e2, if_neg (by simp)]
          simp only
          rw [if_pos hz]
      · refine .inl ⟨s, rfl, ?_, ?_, fun f => ?_⟩
        · unfold opE
          rw [e0, if_neg (by simp), if_neg hz]
        · unfold opD
          rw [e0, if_neg (by simp)]
        · unfold opM
          rw [if_neg hd, e2]
          simp only
          rw [if_neg hz]
def synF (d : Dk) (n : Int) (s : Sm) : Dk := { brn d with L := pt n (s.1, s.1.length) d.L }
def drpF (d : Dk) (n : Int) (s : Sm) : Dk := { brn d with L := dl n d.L }
theorem usM_syn {n : Int} {s : Sm} {k : Nat} {L : List (Int × Sm)} (hs : Ris L) (h : lk n L = some s) : usM (pt n (s.1, k) L) = usM L := by
  have := usM_pt n (s.1, k) hs
  rw [h] at this
  simp only [Option.getD_some] at this
  omega
theorem usM_dl (n : Int) : ∀ {L : List (Int × Sm)}, Ris L → usM (dl n L) + ((lk n L).getD ([], 0)).1.length = usM L
  | [], _ => by simp [dl, lk, usM]
  | y :: r, hs => by
    obtain ⟨h1, h2⟩ := List.pairwise_cons.1 hs
    have ih := usM_dl n h2
    by_cases he : y.1 = n
    · have e : dl n (y :: r) = r := by
        unfold dl
        rw [List.filter_cons]
        simp only [he, decide_true, Bool.not_true]
        exact List.filter_eq_self.2 (fun x hx => by have := h1 x hx; simp; omega)
      unfold lk
      rw [e, if_pos he, usM_cons]
      simp
      omega
    · have e : dl n (y :: r) = y :: dl n r := by
        unfold dl
        rw [List.filter_cons]
        simp [he]
      unfold lk
      rw [e, if_neg he, usM_cons, usM_cons]
      omega
theorem usM_del {n : Int} {s : Sm} {L : List (Int × Sm)} (hs : Ris L) (h : lk n L = some s) : (usM (dl n L) : Int) = (usM L : Int) - (s.1.length : Int) ∧ s.1.length ≤ usM L := by
  have := usM_dl n hs
  rw [h] at this
  simp only [Option.getD_some] at this
  omega
set_option maxRecDepth 100000 in
set_option maxHeartbeats 4000000 in
theorem dsync_any {w : World} {X : Nat} {F : Nat → Prop} {d : Dk} {n : Int} (h0 : PD w X F d) (hfu : d.fuse ≤ 9223372036854775807) (hn : (Lit.int .i64 n).wf = true) (hl : d.L.length ≤ 100000) :
    Calls Try.prog 65 #[.pointer (some ⟨X, 0, none⟩), .int .i64 n] w fun e w' => e = .returned (.int .i64 (opM d n (synF d n)).2) ∧ PD w' X (nF F w) (opM d n (synF d n)).1 ∧ Kf F w w' := by
  obtain ⟨mv, E, h⟩ := h0
  have hmm : mmE E = d.L := by obtain ⟨_, _, h2, _⟩ := h; exact h2
  have hop := doper_any h.clip hfu hn
  have hlE : E.length ≤ 100000 := by rw [← hmm] at hl; simpa [mmE] using hl
  have hXw := h.lt
  rcases op_cases hmm n with ⟨⟨sv, sb, sn⟩, k1, k2, k3, k4⟩ | ⟨e, k1, k2, k3⟩
  · rw [k4]
    rw [k2, k3] at hop
    have hE := hideD (And.intro k1 hmm)
    obtain ⟨a, c, hsv⟩ : ∃ a c, sv = .slice a sb.length c := by
      obtain ⟨fz, h1, h2, h3, h4, h5⟩ := h
      obtain ⟨a, c, e, _, _⟩ := slice_form (h3.s _ (lk_mem k1)).1
      exact ⟨a, c, e⟩
    subst hsv
    unfold cv at hop
    simp only at hop
    clear h k1 k2 k3 k4
    go_enter Try.func65, Try.ntmps65
    go_upto_region 2 with (first
      | (go_at_call 68; refine hop.mono ?_; rintro e w2 ⟨rfl, p2, q2⟩; clear hop)
      | fail)
    have hal : Below w2.heap.size w2 (w2.alloc (.cells #[.slice a sb.length c, .int .i64 (sn : Int)] 92)) := (Below.refl _ _).alloc (Nat.le_refl _) _
    have hT := Bn2.new (w := w2) (.slice a sb.length c) (.int .i64 (sn : Int))
    have p3 := p2.on hal
    have q3 : Kf (cF F w) w (w2.alloc (.cells #[.slice a sb.length c, .int .i64 (sn : Int)] 92)) := q2.alloc _
    have hsz := q2.size
    obtain ⟨Z, hZ⟩ : ∃ Z, w2.heap.size = Z := ⟨_, rfl⟩
    simp only [hZ] at hT hsz ⊢
    generalize w2.alloc (.cells #[.slice a sb.length c, .int .i64 (sn : Int)] 92) = w3 at *
    clear hZ hal p2 q2
    obtain ⟨t0, s0⟩ := hT 0 _ rfl
    obtain ⟨t1, s1⟩ := hT 1 _ rfl
    obtain ⟨fz, g1, g2, g3, g4, g5⟩ := p3
    have hm := lk_mem hE.out.1
    have hset : ∀ b, b ≠ Z → (w3.setCell ⟨Z, 1, none⟩ (.int .i64 (sb.length : Int))).heap[b]? = w3.heap[b]? := fun b hb => Below.heap_setCell _ _ _ _ (fun e => hb e)
    have hP : PR (w3.setCell ⟨Z, 1, none⟩ (.int .i64 (sb.length : Int))) X (cF F w) mv E := g3.keep (fun b hb _ _ => hset b (by have := hb.2; omega))
    have hBX := g4.far (show Z ≠ X by have := g1.2; omega) (i := 1) (.int .i64 (sb.length : Int))
    have hput := dput_any (s := (.slice a sb.length c, sb, sb.length)) (hP.x n) hBX g1 hn hlE (hP.s _ hm).1 (hP.s _ hm).2 (fun x hx hne g hg => apart_ne hP.a hx hm (fun e => hne (by rw [e])) g hg)
    have hKs : Kf (cF F w) w (w3.setCell ⟨Z, 1, none⟩ (.int .i64 (sb.length : Int))) := q3.setNew hsz _
    have hsz3 : (w3.setCell ⟨Z, 1, none⟩ (.int .i64 (sb.length : Int))).heap.size = w3.heap.size := by simp
    have hsz4 := q3.size
    have HF := hideD (And.intro hKs (And.intro hsz3 (And.intro hsz4 (And.intro g1 g5))))
    have hrs := hideD (ris_mmE g3.r)
    unfold cv at hput
    simp only at hput
    clear g2 g3 g4 g5 hP hBX hKs hset hm q3 hT hsz3 hsz4
    go_wp2_with (first
      | (go_at_call 53; refine hput.mono ?_; rintro e w4 ⟨rfl, ⟨mv', q1, q2⟩, q3⟩; clear hput)
      | fail)
    go_ret
    obtain ⟨hKs, hsz3, hsz4, g1, g5⟩ := HF.out
    obtain ⟨k1, hmm⟩ := hE.out
    have hlL : lk n d.L = some (sb, sn) := by rw [← hmm, mmE_lk, k1]; rfl
    have hus := usM_syn (k := sb.length) (show Ris d.L by rw [← hmm]; exact hrs.out) hlL
    refine ⟨rfl, ⟨mv', pt n (.slice a sb.length c, sb, sb.length) E, fz, .inl g1.1, ?_, q2.mono (fun j _ hj => hj.elim (fun h => .inl h.1) (fun h => .inr (by omega))), ?_, ?_⟩, (hKs.trans q3).wide⟩
    · rw [mmE_pt, hmm]
      rfl
    · unfold synF
      simp only
      rw [hus]
      have := q1
      rw [(brn_L d).1] at this
      exact this
    · exact g5
  · rw [k3]
    rw [k2] at hop
    have hwide := fun W (p : PDE W X (cF F w) (opD d n E) mv E) => (⟨mv, E, p.wide.mono (fun j _ hj => Or.inl hj)⟩ : PD W X (nF F w) (opD d n E))
    unfold cv zC at hop
    simp only at hop
    clear h k2 k3
    go_enter Try.func65, Try.ntmps65
    go_wp2_with (first
      | (go_at_call 68; refine hop.mono ?_; rintro e w2 ⟨rfl, p2, q2⟩; clear hop)
      | fail)
    go_ret
    exact ⟨rfl, PD.on (hwide _ p2) ((Below.refl _ _).alloc (Nat.le_refl _) _), (q2.wide).alloc _⟩
set_option maxRecDepth 100000 in
set_option maxHeartbeats 4000000 in
theorem ddrop_any {w : World} {X : Nat} {F : Nat → Prop} {d : Dk} {n : Int} (h0 : PD w X F d) (hfu : d.fuse ≤ 9223372036854775807) (hn : (Lit.int .i64 n).wf = true) (hu : usM d.L ≤ 1000000) :
    Calls Try.prog 47 #[.pointer (some ⟨X, 0, none⟩), .int .i64 n] w fun e w' => e = .returned (.int .i64 (opM d n (drpF d n)).2) ∧ PD w' X (nF F w) (opM d n (drpF d n)).1 ∧ Kf F w w' := by
  obtain ⟨mv, E, h⟩ := h0
  have hmm : mmE E = d.L := by obtain ⟨_, _, h2, _⟩ := h; exact h2
  have hop := doper_any h.clip hfu hn
  have hXw := h.lt
  rcases op_cases hmm n with ⟨⟨sv, sb, sn⟩, k1, k2, k3, k4⟩ | ⟨e, k1, k2, k3⟩
  · rw [k4]
    rw [k2, k3] at hop
    have hE := hideD (And.intro k1 hmm)
    obtain ⟨a, c, hsv⟩ : ∃ a c, sv = .slice a sb.length c := by
      obtain ⟨fz, h1, h2, h3, h4, h5⟩ := h
      obtain ⟨a, c, e, _, _⟩ := slice_form (h3.s _ (lk_mem k1)).1
      exact ⟨a, c, e⟩
    subst hsv
    obtain ⟨b, rfl⟩ : ∃ b, mv = some b := by
      obtain ⟨fz, h1, h2, h3, h4, h5⟩ := h
      rcases h3.m with ⟨_, e⟩ | ⟨b, e, _⟩
      · have : E = [] := List.eq_nil_of_length_eq_zero (by have := congrArg List.length e; simpa [esV] using this)
        subst this
        simp [lk] at k1
      · exact ⟨b, e⟩
    have hlL : lk n d.L = some (sb, sn) := by rw [← hmm, mmE_lk, k1]; rfl
    unfold cv at hop
    simp only at hop
    clear h k1 k2 k3 k4
    go_enter Try.func47, Try.ntmps47
    go_upto_region 2 with (first
      | (go_at_call 68; refine hop.mono ?_; rintro e w2 ⟨rfl, p2, q2⟩; clear hop)
      | fail)
    have hal : Below w2.heap.size w2 (w2.alloc (.cells #[.slice a sb.length c, .int .i64 (sn : Int)] 92)) := (Below.refl _ _).alloc (Nat.le_refl _) _
    have hT := Bn2.new (w := w2) (.slice a sb.length c) (.int .i64 (sn : Int))
    have p3 := p2.on hal
    have q3 : Kf (cF F w) w (w2.alloc (.cells #[.slice a sb.length c, .int .i64 (sn : Int)] 92)) := q2.alloc _
    have hsz := q2.size
    obtain ⟨Z, hZ⟩ : ∃ Z, w2.heap.size = Z := ⟨_, rfl⟩
    simp only [hZ] at hT hsz ⊢
    generalize w2.alloc (.cells #[.slice a sb.length c, .int .i64 (sn : Int)] 92) = w3 at *
    clear hZ hal p2 q2
    obtain ⟨t0, s0⟩ := hT 0 _ rfl
    obtain ⟨t1, s1⟩ := hT 1 _ rfl
    obtain ⟨fz, g1, g2, g3, g4, g5⟩ := p3
    have hm := lk_mem hE.out.1
    have hris : Ris d.L := by rw [← hmm]; exact ris_mmE g3.r
    obtain ⟨u1, u2⟩ := usM_del hris hlL
    simp only at u1 u2
    have hrem := dremove_any (s := (.slice a sb.length c, sb, sn)) (u := (usM (brn d).L : Int)) g3 g4 g1 hn (g3.s _ hm).1 (by rw [(brn_L d).1]; simp only; omega) (by rw [(brn_L d).1]; omega)
    have HF := hideD (And.intro q3 (And.intro g1 (And.intro g5 (And.intro u1 u2))))
    have HM := hideD (show cF F w b from (g3.fm b rfl).1)
    unfold cv at hrem
    simp only at hrem
    clear g2 g3 g4 g5 hm q3 hT u1 u2 hlL hris
    go_wp2_with (first
      | (go_at_call 69; refine hrem.mono ?_; rintro e w4 ⟨rfl, q1, q2, q3⟩; clear hrem)
      | fail)
    go_ret
    obtain ⟨qk, g1, g5, u1, u2⟩ := HF.out
    refine ⟨rfl, ⟨some b, dl n E, fz, .inl g1.1, ?_, q2.mono (fun j _ hj => .inl hj.1), ?_, ?_⟩, (qk.trans (q3.mono (fun j hj => hj.elim (fun e => by rw [e]; exact g1) (fun e => by rw [e]; exact HM.out)))).wide⟩
    · rw [← mmE_dl, hE.out.2]
      rfl
    · unfold drpF
      simp only
      rw [u1]
      have := q1
      rw [(brn_L d).1] at this
      exact this
    · exact g5
  · rw [k3]
    rw [k2] at hop
    have hwide := fun W (p : PDE W X (cF F w) (opD d n E) mv E) => (⟨mv, E, p.wide.mono (fun j _ hj => Or.inl hj)⟩ : PD W X (nF F w) (opD d n E))
    unfold cv zC at hop
    simp only at hop
    clear h k2 k3
    go_enter Try.func47, Try.ntmps47
    go_wp2_with (first
      | (go_at_call 68; refine hop.mono ?_; rintro e w2 ⟨rfl, p2, q2⟩; clear hop)
      | fail)
    go_ret
    exact ⟨rfl, PD.on (hwide _ p2) ((Below.refl _ _).alloc (Nat.le_refl _) _), (q2.wide).alloc _⟩

def xrB (a b : Int) : Int := bits .xor .u8 a b
/-- A byte turned: the disk, whether there is one. -/
def spoD (d : Dk) (n k b : Int) : Dk × Bool :=
  if k < 0 ∨ k ≥ ((((lk n d.L).getD ([], 0)).1.length : Nat) : Int) then (d, false)
  else ({ d with L := pt n (((lk n d.L).getD ([], 0)).1.set k.toNat (xrB (((lk n d.L).getD ([], 0)).1.getD k.toNat 0) b), ((lk n d.L).getD ([], 0)).2) d.L }, true)

/-- How many bytes are kept. -/
def kpN (s : Sm) (t : Int) : Nat := s.2 + (min (max t 0) ((s.1.length : Int) - (s.2 : Int))).toNat
theorem kpN_le {s : Sm} (t : Int) (h : s.2 ≤ s.1.length) : kpN s t ≤ s.1.length := by
  unfold kpN
  omega
end Go.Proofs.Ytpblcahcpobicaa
