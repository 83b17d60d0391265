import Derived.Test.YtgpgbingmeehdaaXlc03
import Derived.Deep.RegionLaw
import Derived.Lib.SliceRun
import Derived.Test.YtgpgbingmeehdaaXlc01

/- The program's links: slices.Delete of one letter, remove. -/
namespace Go.Proofs.Ytgpgbingmeehdaa
open Go.RowKit Go.Lib Go.Maps
set_option linter.unusedSimpArgs false
set_option linter.unusedVariables false
attribute [local go_sem ↓] Go.wp_at_zero Go.wp_at_succ

theorem Try.infoLt : (Try.prog.info? 60).map (fun i => (i.zero, i.size, i.bytes)) = some (some (.agg #[.int .i64 0, .int .i64 0, .slice none 0 0]), 3, 40) := by kernel_rfl
theorem inf_getL {t : TypeId} {z : Value} {a b : Nat} (h : (Try.prog.info? t).map (fun i => (i.zero, i.size, i.bytes)) = some (some z, a, b)) : ∃ i, Try.prog.info? t = some i ∧ i.zero = some z ∧ i.size = a ∧ i.bytes = b := by
  cases hq : Try.prog.info? t with
  | none => rw [hq] at h; cases h
  | some i =>
    rw [hq] at h
    simp only [Option.map_some, Option.some.injEq, Prod.mk.injEq] at h
    exact ⟨i, rfl, h.1, h.2.1, h.2.2⟩
/-- An append in place, to a part of a row whose block is known. -/
theorem step_append_row {P : Program} (w : World) {ops : Array Oper} {o : Oper} {a : Act} {K : Act → World → Prop} {Q : Exit → Act → World → Prop} {E : Prop} (hgd : o.guard = none) (s x : Operand) (t tx : TypeId)
    (ho : o.op = .call { callee := .builtin .append, args := #[s, x], argTypes := #[t, tx] })
    (e : TypeId) (i : TypeInfo) (size : Nat) (ht : P.underlying t = some (.slice e)) (hi : P.info? e = some i) (hsize : i.size = size)
    (g n cap : Nat) (cur : Array Value) (hg : w.heap[g]? = some (.cells cur e (0, 0))) (hs : a.eval s = .slice (some ⟨g, 0, none⟩) n cap)
    (xv : Value) (m : Nat) (news : List Value) (hx : a.eval x = xv) (hsrc : Src P size tx xv m news w) (hroom : n + m ≤ cap) (hfit : n * size + news.length ≤ cur.size)
    (h : K (a.put o.dst (.slice (some ⟨g, 0, none⟩) (n + m) cap)) (w.setRow g (cur.toList.take (n * size) ++ news ++ cur.toList.drop (n * size + news.length)).toArray)) :
    if Region.wanted o (yielded ops a.tmps) = true then Oper.wp P o a w K Q else E := by
  have hw : Region.wanted o (yielded ops a.tmps) = true := by simp [Region.wanted, hgd]
  rw [if_pos hw]
  subst hsize
  have hr := run_append_room_src_own (P := P) w t tx o.type e i ht hi g n cap cur hg xv m news hsrc hroom hfit
  unfold Oper.wp execOp
  simp only [ho, resolve, invoke, builtin, Sem.run_bind, Sem.run_pure, Result.andThen_ok, List.map_toArray, List.map_cons, List.map_nil, hs, hx, hr]
  exact h
theorem run_clear_one (w : World) (t e ty : TypeId) (z : Value) (zs : List Value) (ht : Try.prog.underlying t = some (.slice e)) (hv : ∀ w, (zeroValue e).run Try.prog w = .ok z w) (hz : (Builtin.zeroCells z.cells 1).toList = zs) (h1 : ∀ v ∈ zs, v.oneCell' = true) (g o c : Nat)
    (cur : Array Value) (hg : w.heap[g]? = some (.cells cur e (0, 0))) (hl : o + zs.length ≤ cur.size) :
    (Builtin.clear_ #[t] ty #[.slice (some ⟨g, o, none⟩) 1 c]).run Try.prog w = .ok (.tuple #[]) (w.setRow g (cur.toList.take o ++ zs ++ cur.toList.drop (o + zs.length)).toArray) := by
  have hst := run_storeCells_at Try.prog g o e zs 0 cur w hg (by simpa using hl) h1
  simp only [Nat.add_zero] at hst
  simp [Builtin.clear_, run_underlying ht, hv, hz, hst]
theorem ltZero : (Builtin.zeroCells (Value.agg #[.int .i64 0, .int .i64 0, .slice none 0 0]).cells 1).toList = [.int .i64 0, .int .i64 0, .slice none 0 0] := by kernel_rfl
set_option maxRecDepth 100000 in
set_option maxHeartbeats 4000000 in
theorem lDelete_any {w : World} {g cap : Nat} {E : List (L3 (List Int))} (h : w.ownsRow 0 60 3 (.slice (some ⟨g, 0, none⟩) E.length cap) E.length (cel3 E)) (hx : ∀ x ∈ E, x.2.2.1.oneCell' = true) {i : Nat} (hi : i < E.length) (hl : E.length ≤ 1000) :
    Calls Try.prog 31 #[.slice (some ⟨g, 0, none⟩) E.length cap, .int .i64 (i : Int), .int .i64 ((i : Int) + 1)] w fun e w' => e = .returned (.slice (some ⟨g, 0, none⟩) (E.length - 1) cap) ∧ w'.ownsRow 0 60 3 (.slice (some ⟨g, 0, none⟩) (E.length - 1) cap) (E.length - 1) (cel3 (E.take i ++ E.drop (i + 1))) ∧ Kf (fun j => j = g) w w' := by
  obtain ⟨i0, hi0, hz0, hz1, hz2⟩ := inf_getL Try.infoLt
  obtain ⟨hC, hown⟩ := h
  rcases hown with ⟨e, _⟩ | ⟨g', cap', cur, e, hbg, hg, hnc, hcm, hcs, htake⟩
  · cases e
  simp only [Value.slice.injEq, Option.some.injEq, Addr.mk.injEq, and_true, true_and] at e
  obtain ⟨rfl, rfl⟩ := e
  have hcl := oc_3 hx
  obtain ⟨m, hn⟩ : ∃ m, E.length = i + m + 1 := ⟨E.length - i - 1, by omega⟩
  have hd : (cel3 E).drop ((i + 1) * 3) = cel3 (E.drop (i + 1)) := cel3_drop E (i + 1)
  have ht3 : (cel3 E).take (i * 3) = cel3 (E.take i) := cel3_take E i
  obtain ⟨news, hnews⟩ : ∃ news, cel3 (E.drop (i + 1)) = news := ⟨_, rfl⟩
  obtain ⟨pre, hpre⟩ : ∃ pre, cel3 (E.take i) = pre := ⟨_, rfl⟩
  have hnl : news.length = m * 3 := by rw [← hnews, cel3_len, List.length_drop]; omega
  have hpl : pre.length = i * 3 := by rw [← hpre, cel3_len, List.length_take]; omega
  have hfin : cel3 (E.take i ++ E.drop (i + 1)) = pre ++ news := by rw [cel3_app, hpre, hnews]
  rw [hnews] at hd
  rw [hpre] at ht3
  rw [hn] at hi hl hC hnc htake ⊢
  rw [hfin]
  have hcs' : cur.toList.length = cap * 3 := by simpa using hcs
  have hct : ∀ j, j < (i + m + 1) * 3 → cur.toList[j]? = (cel3 E)[j]? := fun j hj => by rw [← htake, List.getElem?_take, if_pos hj]
  have hcell : ∀ j, j < (i + m + 1) * 3 → w.cell? ⟨g, j, none⟩ = (cel3 E)[j]? := fun j hj => by
    rw [← hct j hj]
    unfold World.cell?
    rw [hg]
    simp
  obtain ⟨A, hA, hsrc⟩ : ∃ A : Addr, (if cap = i + 1 then (some ⟨g, 0, none⟩ : Option Addr) else some ⟨g, (i + 1) * 3, none⟩) = some A ∧ Src Try.prog 3 45 (.slice (some A) m (cap - (i + 1))) m news w.drew := by
    have hone : ∀ u ∈ news, u.oneCell' = true := fun u hu => hcl u (by rw [← hd] at hu; exact List.mem_of_mem_drop hu)
    by_cases hce : cap = i + 1
    · have hm0 : m = 0 := by omega
      subst hm0
      have : news = [] := List.eq_nil_of_length_eq_zero (by simpa using hnl)
      subst this
      exact ⟨_, if_pos hce, Src.ofSlice _ Try.underlying45 _ 0 _ _ rfl (fun j u hj => by simp at hj) hone⟩
    · refine ⟨_, if_neg hce, Src.ofSlice _ Try.underlying45 _ m _ _ hnl (fun j u hj => ?_) hone⟩
      have hjl := (List.getElem?_eq_some_iff.1 hj).1
      rw [add_plain]
      show w.cell? _ = some u
      rw [hcell _ (by omega), ← hj, ← hd, List.getElem?_drop]
  obtain ⟨cur1, hcur1⟩ : ∃ c : Array Value, (cur.toList.take (i * 3) ++ news ++ cur.toList.drop (i * 3 + news.length)).toArray = c := ⟨_, rfl⟩
  have hc1 : cur1.toList = pre ++ news ++ cur.toList.drop (i * 3 + news.length) := by
    rw [← hcur1]
    have : cur.toList.take (i * 3) = pre := by
      rw [← ht3, ← htake, List.take_take]
      congr 1
      omega
    rw [this]
  have hc1l : cur1.size = cap * 3 := by
    rw [← Array.length_toList, hc1]
    simp only [List.length_append, List.length_drop, hpl, hnl, hcs']
    omega
  obtain ⟨W1, hW1⟩ : ∃ W1, w.drew.setRow g cur1 = W1 := ⟨_, rfl⟩
  have hg1 : W1.heap[g]? = some (.cells cur1 60 (0, 0)) := by rw [← hW1]; exact setRow_heap w.drew g cur cur1 60 (0, 0) hg
  have hW1k : Kf (fun j => j = g) w W1 := by
    rw [← hW1]
    exact ⟨rfl, rfl, rfl, by simp, fun k _ hk => setRow_other w.drew g k _ (fun e => hk e)⟩
  have hclr := fun ty => run_clear_one W1 45 60 ty _ _ Try.underlying45 Try.zeroValue60 ltZero (by intro v hv; simp only [List.mem_cons, List.not_mem_nil, or_false] at hv; rcases hv with rfl | rfl | rfl <;> rfl) g ((i + m) * 3) (cap - (i + m)) cur1 hg1 (by rw [hc1l]; simp only [List.length_cons, List.length_nil]; omega)
  have HH := hideL (And.intro hc1 (And.intro hc1l (And.intro hg1 hW1k)))
  have HC := hideL hcur1
  have HW := hideL hW1
  have HG := hideL hg
  have HS := hideL hsrc
  have HF := hideL (show i * 3 + news.length ≤ cur.size by rw [hnl, hcs]; omega)
  have HP := hideL (And.intro hpl hnl)
  have k1 : (i : Int) ≤ (i : Int) + 1 := by omega
  have k2 : (i : Int) + 1 ≤ (i : Int) + (m : Int) + 1 := by omega
  have k3 : ¬ (i : Int) = (i : Int) + 1 := by omega
  have k4 : (0 : Int) ≤ (i : Int) := by omega
  have k5 : (i : Int) ≤ (cap : Int) := by omega
  have k6 : (i : Int) + (m : Int) + 1 ≤ (cap : Int) := by omega
  have k7 : (0 : Int) ≤ (i : Int) + 1 := by omega
  have k8 : (i : Int) + (m : Int) ≤ (i : Int) + (m : Int) + 1 := by omega
  have k9 : (0 : Int) ≤ (i : Int) + (m : Int) := by omega
  have hroom : i + m ≤ cap := by omega
  clear hc1 hc1l hg1 hW1k hcur1 hW1 hg hsrc hct hcell htake hcl hC hnews hpre hnl hpl hfin hd ht3 hcs' hcs
  go_enter Try.func31, Try.ntmps31
  go_wp2
  go_region_law (first
    | (refine step_append_row w.drew (by rfl) (.tmp 22) (.tmp 25) 45 45 (by rfl) 60 i0 3 Try.underlying45 hi0 hz1 g i cap cur HG.out (by rfl) (.slice (some A) m (cap - (i + 1))) m news (by rfl) HS.out hroom HF.out ?_; rw [HC.out, HW.out])
    | fail)
  go_wp2
  obtain ⟨h1, h2, h3, h4⟩ := HH.out
  obtain ⟨p1, p2⟩ := HP.out
  have hpn : (pre ++ news).length = (i + m) * 3 := by rw [List.length_append, p1, p2]; omega
  have htk : cur1.toList.take ((i + m) * 3) = pre ++ news := by rw [h1, ← hpn]; exact take_len _ _
  have hlt : cur1.toList.length = cap * 3 := by simpa using h2
  go_ret
  refine ⟨rfl, ⟨by simpa using hpn, .inr ⟨g, cap, _, rfl, hbg, setRow_heap W1 g cur1 _ 60 (0, 0) h3, by omega, hcm, ?_, ?_⟩⟩, h4.trans ⟨rfl, rfl, rfl, by simp, fun k _ hk => setRow_other W1 g k _ (fun e => hk e)⟩⟩
  · simp only [List.size_toArray, List.length_append, List.length_take, List.length_cons, List.length_drop, hlt]
    omega
  · rw [htk]
    have e : i + m + 1 - 1 = i + m := by omega
    rw [e]
    simp only []
    rw [← hpn]
    exact take_len _ _


set_option maxHeartbeats 1000000 in
theorem bClone_any (w : World) (v : Value) (xs : List Int) (hr : Rd w v xs) (hl2 : xs.length ≤ 1000000) :
    Calls Try.prog 30 #[v] w fun e w' => ∃ u, e = .returned u ∧ Own w' w.heap.size 5 u xs ∧ Below w.heap.size w w' := by
  obtain ⟨i0, hi, hz0, hz1, hz2⟩ := inf_getL Try.info5
  obtain ⟨a, cap, rfl, hc, hm, hn, hcell⟩ := id hr
  cases a with
  | none =>
    obtain ⟨rfl, rfl⟩ := hn rfl
    have hq := Lib.run_eql_slice_nil (P := Try.prog) w 29 5 none 0 0 0 0 Try.underlying29
    clear hr hcell hn
    go_enter Try.func30, Try.ntmps30
    go_wp2
    go_ret
    exact ⟨_, rfl, World.ownsRow_nil _ _ _ _, Below.refl _ _⟩
  | some x =>
    have hq := Lib.run_eql_slice_nil (P := Try.prog) w 29 5 (some x) xs.length cap 0 0 Try.underlying29
    have hs := hideL (rd_src hr rfl (.cells #[] 5))
    clear hcell hn hr
    go_enter Try.func30, Try.ntmps30
    go_wp2_with (first
      | (at_builtin; refine wpList_append_both _ rfl (.tmp 5) (.tmp 6) 29 29 rfl w.heap.size 5 i0 (.int .u8 0) 1 1 Try.underlying29 hi hz0 hz1 hz2 rfl _ 0 [] rfl (own_nil w) _ xs.length _ rfl hs.out xs.length (.inr (by omega)) (Nat.le_refl _) (by unfold maxLen; omega) (by simp) ?_))
    intro v3 w3 ho3 hg3 _
    have b3 := bel_first hg3
    go_wp2
    go_ret
    refine ⟨_, rfl, ?_, b3⟩
    unfold Own
    simpa using ho3
theorem PL.form {w : World} {X : Nat} {F : Nat → Prop} {N : Int} {E : List (L3 (List Int))} {v : Value} (h : PL w X F N E v) : ∃ a cap, v = .slice a E.length cap ∧ E.length ≤ cap ∧ cap ≤ maxLen := own3_form h.o
theorem PL.clip {w : World} {X : Nat} {F : Nat → Prop} {N : Int} {E : List (L3 (List Int))} {v : Value} (h : PL w X F N E v) : PL w X (fun j => F j ∧ j < w.heap.size) N E v := h.keep (fun _ _ _ => rfl) (fun j hj hf => ⟨hf, hj⟩) (Nat.le_refl _)
theorem Kf.setNew {F : Nat → Prop} {X i : Nat} {a b : World} (h : Kf F a b) (hX : a.heap.size ≤ X) (u : Value) : Kf F a (b.setCell ⟨X, i, none⟩ u) :=
  ⟨h.os, h.tape, h.output, by simpa using h.size, fun k hk hn => (Below.heap_setCell _ _ _ _ (fun e => by have : k = X := e; omega)).trans (h.block k hk hn)⟩
theorem Kf.one {F : Nat → Prop} {g : Nat} {a b : World} (h : Kf (fun j => j = g) a b) (hg : F g) : Kf F a b := h.mono (fun j hj => by subst hj; exact hg)
/-- A letter is gone, and the row laid anew. -/
theorem pl_gone {w W w1 : World} {X : Nat} {F : Nat → Prop} {N : Int} {E : List (L3 (List Int))} {g cap n i : Nat} (hW : Below w.heap.size w W) (h : PL w X F N E (.slice (some ⟨g, 0, none⟩) n cap)) (hn : (E.take i ++ E.drop (i + 1)).length = n - 1)
    (hO : w1.ownsRow 0 60 3 (.slice (some ⟨g, 0, none⟩) (n - 1) cap) (n - 1) (cel3 (E.take i ++ E.drop (i + 1)))) (hk : Kf (fun j => j = g) W w1) :
    (∀ k, w.heap.size ≤ k → k < W.heap.size → w1.heap[k]? = W.heap[k]?) ∧ Bn w1 X [.int .i64 N, .slice (some ⟨g, 0, none⟩) n cap] ∧ PL (w1.setCell ⟨X, 1, none⟩ (.slice (some ⟨g, 0, none⟩) (n - 1) cap)) X F N (E.take i ++ E.drop (i + 1)) (.slice (some ⟨g, 0, none⟩) (n - 1) cap) ∧ Kf (fun j => j = X ∨ some g = some j) w (w1.setCell ⟨X, 1, none⟩ (.slice (some ⟨g, 0, none⟩) (n - 1) cap)) ∧
      ∀ x ∈ E, RB (w1.setCell ⟨X, 1, none⟩ (.slice (some ⟨g, 0, none⟩) (n - 1) cap)) (fun k => F k ∧ k ≠ X ∧ some g ≠ some k) x.2.2.1 x.2.2.2 := by
  have hgg := h.oo g rfl
  have hgl := (ownsRow_lt h.o g rfl).2
  have sz := hW.size
  have hXl := h.lt
  have bl : ∀ k, k < w.heap.size → k ≠ g → w1.heap[k]? = w.heap[k]? := fun k hk' hne => (hk.block k (by omega) hne).trans (hW.block k hk')
  have hB : Bn w1 X [.int .i64 N, .slice (some ⟨g, 0, none⟩) n cap] := h.c.blk (bl X hXl (fun e => hgg.2 e.symm))
  have hs1 : w.heap.size ≤ w1.heap.size := Nat.le_trans hW.size hk.size
  have hK1 : Kf (fun j => j = X ∨ some g = some j) w w1 := (Kf.of hW (Nat.le_refl _)).trans (hk.mono (fun j hj => .inr (by rw [hj])))
  have hall : ∀ x ∈ E, RB (w1.setCell ⟨X, 1, none⟩ (.slice (some ⟨g, 0, none⟩) (n - 1) cap)) (fun k => F k ∧ k ≠ X ∧ some g ≠ some k) x.2.2.1 x.2.2.2 := fun x hxE => by
    refine (h.s x hxE).keep (fun k hk' hlt => ⟨hk', ?_⟩) (by simpa using hs1)
    exact (Below.heap_setCell _ _ _ _ (fun e => hk'.2.1 e)).trans (bl k hlt (fun e => hk'.2.2 (by rw [e]; rfl)))
  refine ⟨fun k hk1 hk2 => hk.block k hk2 (by omega), hB, ⟨h.x, hB.set (i := 1) (by simp) _, ?_, fun g' hg' => ?_, fun x hx => ?_⟩, hK1.set (.inl rfl) _, hall⟩
  · rw [hn]
    exact ownsRow_keep hO (fun k hk => Below.heap_setCell _ _ _ _ (fun e => by simp [Value.ownBlock] at hk; subst hk; exact hgg.2 e))
  · simp [Value.ownBlock] at hg'
    subst hg'
    exact hgg
  · exact hall x (by
      rcases List.mem_append.1 hx with hx | hx
      · exact List.mem_of_mem_take hx
      · exact List.mem_of_mem_drop hx)
set_option maxRecDepth 100000 in
set_option maxHeartbeats 2000000 in
theorem lRemove_any {w : World} {X : Nat} {F : Nat → Prop} {N : Int} {E : List (L3 (List Int))} {v : Value} (h : PL w X F N E v) {i : Nat} {x : L3 (List Int)} (hx : E[i]? = some x) (hl : E.length ≤ 1000) :
    Calls Try.prog 29 #[.pointer (some ⟨X, 0, none⟩), .int .i64 (i : Int)] w fun e w' => e = .returned (.agg #[.int .i64 x.1, .int .i64 x.2.1, x.2.2.1]) ∧ (∃ v', v'.ownBlock = v.ownBlock ∧ PL w' X F N (E.take i ++ E.drop (i + 1)) v') ∧ Kf (fun j => j = X ∨ v.ownBlock = some j) w w' ∧ RB w' (fun g => F g ∧ g ≠ X ∧ v.ownBlock ≠ some g) x.2.2.1 x.2.2.2 := by
  have hi : i < E.length := (List.getElem?_eq_some_iff.1 hx).1
  obtain ⟨g, cap, rfl, hcl, hcm, hgl, hc, hfz⟩ := own3_at h.o (by omega)
  obtain ⟨d0, d1, d2⟩ := hc i x hx
  obtain ⟨c1, f1⟩ := h.c 1 _ rfl
  obtain ⟨xa, xc, hxv, _⟩ := (h.s x (List.mem_of_getElem? hx)).r
  obtain ⟨i0, hi0, hz0, hz1, hz2⟩ := inf_getL Try.infoLt
  replace h := h.clip
  have hgX := (h.oo g rfl).2
  have hXl := h.lt
  have i1 : (0 : Int) ≤ (i : Int) := by omega
  have i3 : (i : Int) < (E.length : Int) := by omega
  obtain ⟨x1, x2, xv, xb⟩ := x
  simp only at d0 d1 d2 hxv
  subst hxv
  have hW : Below w.heap.size w ((w.alloc (.cells #[.int .i64 0, .int .i64 0, .slice none 0 0] 60)).alloc (.cells #[.int .i64 x1, .int .i64 x2, .slice xa xb.length xc] 60)) := ((Below.refl _ _).alloc (Nat.le_refl _) _).alloc (by simp) _
  have hdel := lDelete_any (w := (w.alloc (.cells #[.int .i64 0, .int .i64 0, .slice none 0 0] 60)).alloc (.cells #[.int .i64 x1, .int .i64 x2, .slice xa xb.length xc] 60)) ((h.o.alloc _).alloc _) (fun x hx => (h.s x hx).one) hi hl
  have hHF := fun w1 hO hk => pl_gone (w1 := w1) (i := i) (n := E.length) hW h (by rw [List.length_append, List.length_take, List.length_drop]; omega) hO hk
  have HF := hideL hHF
  have HXE := hideL (List.mem_of_getElem? hx)
  have HT := hideL (Bn.new (w.alloc (.cells #[.int .i64 0, .int .i64 0, .slice none 0 0] 60)) [.int .i64 x1, .int .i64 x2, .slice xa xb.length xc] 60 (w.heap.size + 1) (by simp))
  have HY := hideL (show ((w.alloc (.cells #[.int .i64 0, .int .i64 0, .slice none 0 0] 60)).alloc (.cells #[.int .i64 x1, .int .i64 x2, .slice xa xb.length xc] 60)).heap[w.heap.size]? = some (.cells #[.int .i64 0, .int .i64 0, .slice none 0 0] 60 (0, 0)) from (heap_alloc_old _ _ (by simp)).trans (heap_alloc_new _ _))
  have HZ := hideL ((Bn.new w [.int .i64 0, .int .i64 0, .slice none 0 0] 60 w.heap.size rfl).on ((Below.refl _ (w.alloc (.cells #[.int .i64 0, .int .i64 0, .slice none 0 0] 60))).alloc (Nat.le_refl _) (.cells #[.int .i64 x1, .int .i64 x2, .slice xa xb.length xc] 60)))
  clear h hc hx hHF hW
  generalize E.take i ++ E.drop (i + 1) = E' at *
  go_enter Try.func29, Try.ntmps29
  go_wp2_with (first
    | (go_at_call 31; refine hdel.mono ?_; rintro e w1 ⟨rfl, hO, hk⟩; obtain ⟨q1, q2, q3, q4, q5⟩ := HF.out w1 hO hk; have HR := hideL (q5 _ HXE.out); obtain ⟨X1, Y1⟩ := q2 1 _ rfl; have hT1 := HT.out.blk (q1 (w.heap.size + 1) (by omega) (by simp)); have hZ1 := HZ.out.blk (q1 w.heap.size (by omega) (by simp; omega)); obtain ⟨t0, _⟩ := hT1 0 _ rfl; obtain ⟨t1, _⟩ := hT1 1 _ rfl; obtain ⟨t2, _⟩ := hT1 2 _ rfl; obtain ⟨z0, y0⟩ := hZ1 0 _ rfl; obtain ⟨z1, y1⟩ := hZ1 1 _ rfl; obtain ⟨z2, y2⟩ := hZ1 2 _ rfl; have HV := hideL ((q1 w.heap.size (by omega) (by simp; omega)).trans HY.out); have HQ := hideL (And.intro q3 q4); clear hdel hO hk q1 q2 q3 q4 q5 HF)
    | fail)
  obtain ⟨r1, r2⟩ := HQ.out
  have v1 := (Below.heap_setCell w1 ⟨X, 1, none⟩ (.slice (some ⟨g, 0, none⟩) (E.length - 1) cap) w.heap.size (by show w.heap.size ≠ X; omega)).trans HV.out
  have v2 := heap_setCell_same _ w.heap.size 2 _ 60 (.slice xa xb.length xc) (heap_setCell_same _ w.heap.size 1 _ 60 (.int .i64 x2) (heap_setCell_same _ w.heap.size 0 _ 60 (.int .i64 x1) v1))
  refine bodyPost_ret (results_cell_row rfl _ _ w.heap.size 60 #[.int .i64 x1, .int .i64 x2, .slice xa xb.length xc] (0, 0) _ rfl v2 Try.underlying60 rfl (by rw [hi0]; simp [hz1])) rfl ?_
  refine ⟨rfl, ⟨.slice (some ⟨g, 0, none⟩) (E.length - 1) cap, rfl, ?_⟩, (((r2.setNew (Nat.le_refl _) _).setNew (Nat.le_refl _) _).setNew (Nat.le_refl _) _), ?_⟩
  · refine r1.keep (fun b hb hlt => ?_) (fun _ _ hj => hj.1) (by simp)
    have hne : b ≠ w.heap.size := by have := hb.2; omega
    exact (Below.heap_setCell _ _ _ _ hne).trans ((Below.heap_setCell _ _ _ _ hne).trans (Below.heap_setCell _ _ _ _ hne))
  refine HR.out.keep (fun b hb hlt => ⟨⟨hb.1.1, hb.2⟩, ?_⟩) (by simp)
  have hne : b ≠ w.heap.size := by have := hb.1.2; omega
  exact (Below.heap_setCell _ _ _ _ hne).trans ((Below.heap_setCell _ _ _ _ hne).trans (Below.heap_setCell _ _ _ _ hne))
theorem lAdd_full {w : World} {X : Nat} {F : Nat → Prop} {N : Int} {E : List (L3 (List Int))} {v : Value} (h : PL w X F N E v) (f t : Int) (u : Value) (hl : 100 ≤ E.length) :
    Calls Try.prog 26 #[.pointer (some ⟨X, 0, none⟩), .int .i64 f, .int .i64 t, u] w fun e w' => e = .returned (.int .i64 7) ∧ w' = w := by
  obtain ⟨c1, f1⟩ := h.c 1 _ rfl
  obtain ⟨a, cap, rfl, _, _⟩ := h.form
  have k1 : (E.length : Int) ≥ 100 := by omega
  clear h
  go_enter Try.func26, Try.ntmps26
  go_wp2
  go_ret
  exact ⟨rfl, rfl⟩
theorem src_lt (t : TypeId) (ht : Try.prog.underlying t = some (.slice 60)) (wa : World) (x : L3 (List Int)) (h1 : x.2.2.1.oneCell' = true) : Src Try.prog 3 t (.slice (some ⟨wa.heap.size, 0, none⟩) 1 1) 1 (cel3 [x]) (wa.alloc (.cells #[.int .i64 x.1, .int .i64 x.2.1, x.2.2.1] 60)) := by
  refine Src.ofSlice _ ht _ 1 1 _ rfl (fun j u hj => ?_) (oc_3 (fun y hy => by rw [List.mem_singleton.1 hy]; exact h1))
  rw [add_plain, Nat.zero_add]
  have hB : Bn (wa.alloc (.cells #[.int .i64 x.1, .int .i64 x.2.1, x.2.2.1] 60)) wa.heap.size [.int .i64 x.1, .int .i64 x.2.1, x.2.2.1] := Bn.new wa [.int .i64 x.1, .int .i64 x.2.1, x.2.2.1] _ _ rfl
  exact (hB j u hj).1
/-- A letter more, in a row that has grown. -/
theorem pl_push {w W wb : World} {X : Nat} {F : Nat → Prop} {N : Int} {E : List (L3 (List Int))} {v v' : Value} {x : L3 (List Int)} (h : PL w X F N E v) (hW : Below w.heap.size w W) (hx : RB W (fun g => w.heap.size ≤ g) x.2.2.1 x.2.2.2 ∨ (RB W (fun g => F g ∧ g ≠ X ∧ v.ownBlock ≠ some g) x.2.2.1 x.2.2.2))
    (hO : wb.ownsRow 0 60 3 v' (E.length + 1) (cel3 E ++ cel3 [x])) (hg : W.grownBy wb v.ownBlock) (hat : v'.ownBlock = v.ownBlock ∨ v'.ownBlock = some W.heap.size) :
    Bn wb X [.int .i64 N, v] ∧ PL (wb.setCell ⟨X, 1, none⟩ v') X (nF F w) N (E ++ [x]) v' ∧ Kf F w (wb.setCell ⟨X, 1, none⟩ v') := by
  have hXl := h.lt
  have hWs := hW.size
  have hvl : ∀ g, v.ownBlock = some g → g < w.heap.size := fun g hg => (ownsRow_lt h.o g hg).2
  have hXv : v.ownBlock ≠ some X := fun e => (h.oo X e).2 rfl
  have bl : ∀ k, k < W.heap.size → v.ownBlock ≠ some k → wb.heap[k]? = W.heap[k]? := fun k hk hne => hg.block k hk (fun e => hne e.symm)
  have hBb : Bn wb X [.int .i64 N, v] := (h.c.on hW).blk (bl X (by omega) hXv)
  have hv' : ∀ g, v'.ownBlock = some g → nF F w g ∧ g ≠ X := fun g hg' => by
    rcases hat with e | e
    · rw [e] at hg'
      exact ⟨.inl (h.oo g hg').1, (h.oo g hg').2⟩
    · rw [e] at hg'
      have := Option.some.inj hg'
      exact ⟨.inr (by omega), by omega⟩
  have key : ∀ g, g ≠ X → g < W.heap.size → v.ownBlock ≠ some g → v'.ownBlock ≠ some g ∧ (wb.setCell ⟨X, 1, none⟩ v').heap[g]? = W.heap[g]? := fun g hgX hlt hne => by
    refine ⟨fun e => ?_, (Below.heap_setCell _ _ _ _ (fun e => hgX e)).trans (bl g hlt hne)⟩
    rcases hat with q | q
    · rw [q] at e
      exact hne e
    · rw [q] at e
      have := Option.some.inj e
      omega
  have hss : W.heap.size ≤ (wb.setCell ⟨X, 1, none⟩ v').heap.size := by simpa using hg.size
  refine ⟨hBb, ⟨.inl h.x, hBb.set (i := 1) (by simp) v', ?_, fun g hg' => hv' g hg', fun y hy => ?_⟩, ((Kf.of hW (Nat.le_refl _)).trans (Kf.grown hg (fun k hk => (h.oo k hk).1))).set h.x _⟩
  · rw [List.length_append, cel3_app]
    exact ownsRow_keep hO (fun g hg' => Below.heap_setCell _ _ _ _ (fun e => (hv' g hg').2 e))
  · rcases List.mem_append.1 hy with hy | hy
    · have h1 : RB W (fun g => F g ∧ g ≠ X ∧ v.ownBlock ≠ some g) y.2.2.1 y.2.2.2 := (h.s y hy).keep (fun g hg hlt => ⟨hg, hW.block g hlt⟩) hWs
      refine h1.keep (fun g hgp hlt => ?_) hss
      obtain ⟨k1, k2⟩ := key g hgp.2.1 hlt hgp.2.2
      exact ⟨⟨.inl hgp.1, hgp.2.1, k1⟩, k2⟩
    · rw [List.mem_singleton.1 hy]
      rcases hx with hx | hx
      · refine hx.keep (fun g hgp hlt => ?_) hss
        obtain ⟨k1, k2⟩ := key g (by omega) hlt (fun e => by have := hvl g e; omega)
        exact ⟨⟨.inr hgp, by omega, k1⟩, k2⟩
      · refine hx.keep (fun g hgp hlt => ?_) hss
        obtain ⟨k1, k2⟩ := key g hgp.2.1 hlt hgp.2.2
        exact ⟨⟨.inl hgp.1, hgp.2.1, k1⟩, k2⟩
theorem own_rb {w W : World} {u : Value} {b : List Int} {B : Nat} (h : Own w B 5 u b) (hW : Below w.heap.size w W) : RB W (fun g => B ≤ g) u b := by
  have h1 : RB w (fun g => B ≤ g) u b := ⟨h.rd, fun g hg => ownsRow_lt h g hg⟩
  exact h1.keep (fun g hg hlt => ⟨hg, hW.block g hlt⟩) hW.size
set_option maxRecDepth 100000 in
set_option maxHeartbeats 2000000 in
theorem lAdd_any {w : World} {X : Nat} {F : Nat → Prop} {N : Int} {E : List (L3 (List Int))} {v : Value} (h : PL w X F N E v) (f t : Int) {u : Value} {b : List Int} (hu : Rd w u b) (hb : b.length ≤ 1000000) (hl : E.length < 100) :
    Calls Try.prog 26 #[.pointer (some ⟨X, 0, none⟩), .int .i64 f, .int .i64 t, u] w fun e w' => e = .returned (.int .i64 0) ∧ (∃ v' xv, PL w' X (nF F w) N (E ++ [(f, t, xv, b)]) v') ∧ Kf F w w' := by
  obtain ⟨i0, hi0, hz0, hz1, hz2⟩ := inf_getL Try.infoLt
  obtain ⟨c1, f1⟩ := h.c 1 _ rfl
  obtain ⟨a, cap, rfl, _, _⟩ := h.form
  have hcl := bClone_any w.drew u b hu hb
  have hXl := h.lt
  have H0 := hideL h
  have HU := hideL hu
  have c2 : w.drew.cell? ⟨X, 1, none⟩ = some (.slice a E.length cap) := c1
  have k1 : ¬ (E.length : Int) ≥ 100 := by omega
  clear h hu
  go_enter Try.func26, Try.ntmps26
  go_wp2
  go_region_law (first
      | (go_simp; go_at_call 30; (with_reducible refine hcl.mono ?_); rintro e w2 ⟨u2, rfl, o2, b2⟩; obtain ⟨ua, uc, rfl, _⟩ := o2.rd; have c3 : w2.cell? ⟨X, 1, none⟩ = some (.slice a E.length cap) := (b2.cell (p := ⟨X, 1, none⟩) hXl).trans c1; have hal : Below w.heap.size w (w2.alloc (.cells #[.int .i64 f, .int .i64 t, .slice ua b.length uc] 60)) := (((Below.refl w.heap.size w).drew).trans b2).alloc b2.size _; have c4 : (w2.alloc (.cells #[.int .i64 f, .int .i64 t, .slice ua b.length uc] 60)).cell? ⟨X, 1, none⟩ = some (.slice a E.length cap) := (hal.cell (p := ⟨X, 1, none⟩) hXl).trans c1; have HL := hideL hal; have HX := hideL (own_rb o2 ((Below.refl _ _).alloc (Nat.le_refl _) (.cells #[.int .i64 f, .int .i64 t, .slice ua b.length uc] 60))); clear hcl b2 o2 hal)
      | (refine step_append_at (w2.alloc (.cells #[.int .i64 f, .int .i64 t, .slice ua b.length uc] 60)) (by rfl) (.tmp 19) (.tmp 25) 45 45 (by rfl) 0 60 i0 (.agg #[.int .i64 0, .int .i64 0, .slice none 0 0]) 3 40 Try.underlying45 hi0 hz0 hz1 hz2 rfl (.slice a E.length cap) E.length (cel3 E) (by rfl) (own3_on H0.out.o HL.out) _ 1 (cel3 [(f, t, .slice ua b.length uc, b)]) (by rfl) (src_lt 45 Try.underlying45 w2 (f, t, .slice ua b.length uc, b) rfl) 1 (.inr (by omega)) (Nat.le_refl _) (by unfold maxLen; omega) (by omega) ?_; intro vb wb hOb hgb hat; obtain ⟨hBb, hPb, hKb⟩ := pl_push (x := (f, t, .slice ua b.length uc, b)) H0.out HL.out (.inl (show RB (w2.alloc (.cells #[.int .i64 f, .int .i64 t, .slice ua b.length uc] 60)) (fun g => w.heap.size ≤ g) (.slice ua b.length uc) b from HX.out)) hOb hgb hat; obtain ⟨va, vc, hvb, _, _⟩ := hPb.form; rw [List.length_append, List.length_singleton] at hvb; subst hvb; obtain ⟨c5, g5⟩ := hBb 1 _ rfl; have HPb := hideL (And.intro hPb hKb); clear hOb hgb hat hBb hPb hKb HX)
      | fail)
  all_goals (
    go_wp2
    go_ret
    exact ⟨rfl, ⟨_, _, HPb.out.1⟩, HPb.out.2⟩)

theorem own_lowL {w : World} {b b' e : Nat} {v : Value} {xs : List Int} (h : Own w b e v xs) (hb : b' ≤ b) : Own w b' e v xs := by
  refine ⟨h.1, ?_⟩
  rcases h.2 with h2 | ⟨g, cap, cur, rfl, hbg, rest⟩
  · exact .inl h2
  · exact .inr ⟨g, cap, cur, rfl, Nat.le_trans hb hbg, rest⟩
abbrev LtL := List (Int × Int × List Int)
def addL (L : LtL) (f t : Int) (b : List Int) : Int × LtL := if 100 ≤ L.length then (7, L) else (0, L ++ [(f, t, b)])
def sndL (N : Int) (L : LtL) (f t : Int) (b : List Int) : Int × LtL := if Pty N f t then addL L f t b else (5, L)
def pkL (f t c : Int) (L : LtL) : List Int := match fd f t c 0 0 L with | some i => ((L[i]?).map (·.2.2)).getD [] | none => []
def tkL (f t c : Int) (L : LtL) : LtL := match fd f t c 0 0 L with | some i => L.take i ++ L.drop (i + 1) | none => L
def dbL (f t c : Int) (L : LtL) : Int × LtL := match fd f t c 0 0 L with | some _ => addL L f t (pkL f t c L) | none => (5, L)
def trL (f t : Int) (L : LtL) : LtL := tkL f t 0 L ++ [(f, t, pkL f t 0 L)]
theorem PLM.wide {w w' : World} {X : Nat} {F : Nat → Prop} {N : Int} {L : LtL} (h : PLM w' X F N L) : PLM w' X (nF F w) N L := h.keep (fun _ _ _ => rfl) (fun _ _ hj => .inl hj) (Nat.le_refl _)
theorem ladd_all {w : World} {X : Nat} {F : Nat → Prop} {N : Int} {L : LtL} (h : PLM w X F N L) (f t : Int) {u : Value} {b : List Int} (hu : Rd w u b) (hb : b.length ≤ 1000000) :
    Calls Try.prog 26 #[.pointer (some ⟨X, 0, none⟩), .int .i64 f, .int .i64 t, u] w fun e w' => e = .returned (.int .i64 (addL L f t b).1) ∧ PLM w' X (nF F w) N (addL L f t b).2 ∧ Kf F w w' := by
  obtain ⟨E, v, h, rfl⟩ := h
  unfold addL
  rw [List.length_map]
  split
  · rename_i hl
    refine (lAdd_full h f t u hl).mono ?_
    rintro e w1 ⟨rfl, rfl⟩
    exact ⟨rfl, PLM.wide ⟨E, v, h, rfl⟩, Kf.refl _ _⟩
  · rename_i hl
    refine (lAdd_any h f t hu hb (by omega)).mono ?_
    rintro e w1 ⟨rfl, ⟨v', xv, h1⟩, h2⟩
    exact ⟨rfl, ⟨_, v', h1, by rw [List.map_append]; rfl⟩, h2⟩
set_option maxHeartbeats 1000000 in
theorem lSend_any {w : World} {X : Nat} {F : Nat → Prop} {N : Int} {L : LtL} (h : PLM w X F N L) (f t : Int) {u : Value} {b : List Int} (hu : Rd w u b) (hb : b.length ≤ 1000000) :
    Calls Try.prog 11 #[.pointer (some ⟨X, 0, none⟩), .int .i64 f, .int .i64 t, u] w fun e w' => e = .returned (.int .i64 (sndL N L f t b).1) ∧ PLM w' X (nF F w) N (sndL N L f t b).2 ∧ Kf F w w' := by
  have h1 := lParty_any h f
  have h2 := lParty_any h t
  have h3 := ladd_all h f t hu hb
  have H0 := hideL h
  unfold sndL
  by_cases hf : 0 ≤ f ∧ f < N
  · rw [decide_eq_true hf] at h1
    by_cases ht : 0 ≤ t ∧ t < N
    · rw [decide_eq_true ht] at h2
      by_cases hft : f = t
      · rw [if_neg (fun e : Pty N f t => e.2.2.2.2 hft)]
        subst hft
        clear h h3 h1 hf ht
        go_enter Try.func11, Try.ntmps11
        go_wp2_with (first
          | (go_at_call 25; refine h2.mono ?_; rintro e w1 ⟨rfl, rfl⟩)
          | fail)
        go_ret
        exact ⟨rfl, H0.out.wide, Kf.refl _ _⟩
      · rw [if_pos (show Pty N f t from ⟨hf.1, hf.2, ht.1, ht.2, hft⟩)]
        generalize addL L f t b = R at *
        clear h hf ht
        go_enter Try.func11, Try.ntmps11
        go_wp2_with (first
          | (go_at_call 25; refine h1.mono ?_; rintro e w1 ⟨rfl, rfl⟩; clear h1)
          | (go_at_call 25; refine h2.mono ?_; rintro e w1 ⟨rfl, rfl⟩; clear h2)
          | (go_at_call 26; refine h3.mono ?_; rintro e w2 ⟨rfl, p, k⟩; have HP := hideL (And.intro p k); clear h3 p k)
          | fail)
        go_ret
        exact ⟨rfl, HP.out⟩
    · rw [decide_eq_false ht] at h2
      rw [if_neg (fun e : Pty N f t => ht ⟨e.2.2.1, e.2.2.2.1⟩)]
      clear h h3
      go_enter Try.func11, Try.ntmps11
      go_wp2_with (first
        | (go_at_call 25; refine h1.mono ?_; rintro e w1 ⟨rfl, rfl⟩; clear h1)
        | (go_at_call 25; refine h2.mono ?_; rintro e w1 ⟨rfl, rfl⟩; clear h2)
        | fail)
      go_ret
      exact ⟨rfl, H0.out.wide, Kf.refl _ _⟩
  · rw [decide_eq_false hf] at h1
    rw [if_neg (fun e : Pty N f t => hf ⟨e.1, e.2.1⟩)]
    clear h h3 h2
    go_enter Try.func11, Try.ntmps11
    go_wp2_with (first
      | (go_at_call 25; refine h1.mono ?_; rintro e w1 ⟨rfl, rfl⟩; clear h1)
      | fail)
    go_ret
    exact ⟨rfl, H0.out.wide, Kf.refl _ _⟩
/-- The letter that is found. -/
theorem fd_hit {f t c : Int} {E : List (L3 (List Int))} {i : Nat} (h : fd f t c 0 0 (E.map el) = some i) : ∃ x, E[i]? = some x ∧ x.1 = f ∧ x.2.1 = t ∧ i < E.length ∧ pkL f t c (E.map el) = x.2.2.2 ∧ tkL f t c (E.map el) = (E.take i ++ E.drop (i + 1)).map el := by
  rcases fd_spec f t c (E.map el) 0 0 with ⟨j, k, y, h1, h2, h3, h4, h5, h6, _⟩ | ⟨h1, _⟩
  · rw [h] at h1
    have e : i = j := by have := Option.some.inj h1; omega
    subst e
    obtain ⟨x, hx, he⟩ := map_el_at h4
    refine ⟨x, hx, by rw [← he] at h5; exact h5, by rw [← he] at h6; exact h6, by simpa using h3, ?_, ?_⟩
    · unfold pkL
      rw [h]
      simp only [h4, Option.map_some, Option.getD_some]
      rw [← he]
      rfl
    · unfold tkL
      rw [h]
      simp only [List.map_append, List.map_take, List.map_drop]
  · rw [h] at h1
    cases h1
set_option maxHeartbeats 1000000 in
theorem lPeek_any {w : World} {X : Nat} {F : Nat → Prop} {N : Int} {L : LtL} (h : PLM w X F N L) (hl : L.length ≤ 1000) (hb : ∀ x ∈ L, x.2.2.length ≤ 1000000) (f t c : Int) :
    Calls Try.prog 15 #[.pointer (some ⟨X, 0, none⟩), .int .i64 f, .int .i64 t, .int .i64 c] w fun e w' => ∃ u, e = .returned (.tuple #[u, .bool (fd f t c 0 0 L).isSome]) ∧ Own w' w.heap.size 5 u (pkL f t c L) ∧ Below w.heap.size w w' := by
  have h1 := lFind_any h hl f t c
  cases hfd : fd f t c 0 0 L with
  | none =>
    rw [hfd] at h1
    have e : pkL f t c L = [] := by unfold pkL; rw [hfd]
    rw [e]
    clear h hfd e hb
    simp only [Option.getD_none, Option.isSome_none] at h1 ⊢
    go_enter Try.func15, Try.ntmps15
    go_wp2_with (first
      | (go_at_call 28; refine h1.mono ?_; rintro e w1 ⟨rfl, hb⟩; have HB := hideL hb; clear h1 hb)
      | fail)
    go_ret2
    exact ⟨_, rfl, World.ownsRow_nil _ _ _ _, HB.out⟩
  | some i =>
    rw [hfd] at h1
    obtain ⟨E, v, h, rfl⟩ := h
    obtain ⟨x, hx, _, _, hi, hpk, _⟩ := fd_hit hfd
    rw [hpk]
    have hxb := hb (el x) (List.mem_map_of_mem (List.mem_of_getElem? hx))
    obtain ⟨g, cap, rfl, hcl, hcm, hgl, hc, hfz⟩ := own3_at h.o (by omega)
    obtain ⟨d0, d1, d2⟩ := hc i x hx
    obtain ⟨c1, f1⟩ := h.c 1 _ rfl
    have hxr := (h.s x (List.mem_of_getElem? hx)).r
    have hXl := h.lt
    obtain ⟨x1, x2, xv, xb⟩ := x
    simp only at d2 hxr
    have hcl2 := fun W (hb : Below w.heap.size w W) => bClone_any W xv xb (hxr.below hb (Nat.le_refl _)) hxb
    have i1 : (0 : Int) ≤ (i : Int) := by omega
    have i3 : (i : Int) < (E.length : Int) := by omega
    simp only [Option.getD_some, Option.isSome_some] at h1 ⊢
    clear h hc hx hfd hpk hb d0 d1 hxr
    go_enter Try.func15, Try.ntmps15
    go_wp2_with (first
      | (go_at_call 28; refine h1.mono ?_; rintro e w1 ⟨rfl, hb⟩; have c2 := (hb.cell (p := ⟨X, 1, none⟩) hXl).trans c1; have d3 := (hb.cell (p := ⟨g, i * 3 + 2, none⟩) hgl).trans d2; have hcl3 := hcl2 w1 hb; have HB := hideL hb; clear h1 hb hcl2)
      | (go_at_call 30; refine hcl3.mono ?_; rintro e w2 ⟨u2, rfl, o2, b2⟩; have HO := hideL (And.intro o2 b2); clear hcl3 o2 b2)
      | fail)
    obtain ⟨o2, b2⟩ := HO.out
    go_ret2
    exact ⟨_, rfl, own_lowL o2 HB.out.size, HB.out.trans (b2.mono HB.out.size)⟩
theorem lt_fld (a b c : Value) (w : World) : (Instr.field 60 (.agg #[a, b, c]) 2).run Try.prog w = .ok c w := by kernel_rfl
set_option maxHeartbeats 1000000 in
theorem lTake_hit {w : World} {X : Nat} {F : Nat → Prop} {N : Int} {E : List (L3 (List Int))} {v : Value} (h : PL w X F N E v) (hl : E.length ≤ 1000) {f t c : Int} {i : Nat} (hfd : fd f t c 0 0 (E.map el) = some i) {x : L3 (List Int)} (hx : E[i]? = some x) :
    Calls Try.prog 13 #[.pointer (some ⟨X, 0, none⟩), .int .i64 f, .int .i64 t, .int .i64 c] w fun e w' => ∃ u, e = .returned (.tuple #[u, .bool true]) ∧ RB w' (fun g => F g ∧ g ≠ X ∧ v.ownBlock ≠ some g) u x.2.2.2 ∧ (∃ v', v'.ownBlock = v.ownBlock ∧ PL w' X F N (E.take i ++ E.drop (i + 1)) v') ∧ Kf (fun j => j = X ∨ v.ownBlock = some j) w w' := by
  have h1 := lFind_any ⟨E, v, h, rfl⟩ (by rw [List.length_map]; exact hl) f t c
  rw [hfd] at h1
  have H0 := hideL h
  obtain ⟨xa, xc, hxv, _⟩ := (h.s x (List.mem_of_getElem? hx)).r
  simp only [Option.getD_some, Option.isSome_some] at h1 ⊢
  obtain ⟨x1, x2, xv, xb⟩ := x
  simp only at hxv
  subst hxv
  have hrem : ∀ W, Below w.heap.size w W → Calls Try.prog 29 #[.pointer (some ⟨X, 0, none⟩), .int .i64 (i : Int)] W fun e w' => e = .returned (.agg #[.int .i64 x1, .int .i64 x2, .slice xa xb.length xc]) ∧ (∃ v', v'.ownBlock = v.ownBlock ∧ PL w' X F N (E.take i ++ E.drop (i + 1)) v') ∧ Kf (fun j => j = X ∨ v.ownBlock = some j) W w' ∧ RB w' (fun g => F g ∧ g ≠ X ∧ v.ownBlock ≠ some g) (.slice xa xb.length xc) xb := fun W hb =>
    lRemove_any (H0.out.keep (fun b _ hlt => hb.block b hlt) (fun _ _ h => h) hb.size : PL W X F N E v) hx hl
  generalize E.take i ++ E.drop (i + 1) = E' at *
  have hfl : ∀ W, (Instr.field 60 (.agg #[.int .i64 x1, .int .i64 x2, .slice xa xb.length xc]) 2).run Try.prog W = .ok (.slice xa xb.length xc) W := fun W => lt_fld _ _ _ W
  clear h hx hfd
  go_enter Try.func13, Try.ntmps13
  go_wp2_with (first
    | (go_at_call 28; refine h1.mono ?_; rintro e w1 ⟨rfl, hb⟩; have hp := hrem w1 hb; have HB := hideL hb; clear h1 hb hrem)
    | (go_at_call 29; refine hp.mono ?_; rintro e w2 ⟨rfl, p2, k2, r2⟩; have HP := hideL (And.intro p2 (And.intro k2 r2)); clear hp p2 k2 r2)
    | fail)
  obtain ⟨p2, k2, r2⟩ := HP.out
  go_ret2
  exact ⟨_, rfl, r2, p2, (Kf.of HB.out (Nat.le_refl _)).trans k2⟩
set_option maxHeartbeats 1000000 in
theorem lTake_any {w : World} {X : Nat} {F : Nat → Prop} {N : Int} {L : LtL} (h : PLM w X F N L) (hl : L.length ≤ 1000) (f t c : Int) :
    Calls Try.prog 13 #[.pointer (some ⟨X, 0, none⟩), .int .i64 f, .int .i64 t, .int .i64 c] w fun e w' => ∃ u, e = .returned (.tuple #[u, .bool (fd f t c 0 0 L).isSome]) ∧ RB w' F u (pkL f t c L) ∧ PLM w' X F N (tkL f t c L) ∧ Kf F w w' := by
  have h1 := lFind_any h hl f t c
  cases hfd : fd f t c 0 0 L with
  | none =>
    rw [hfd] at h1
    have e : pkL f t c L = [] := by unfold pkL; rw [hfd]
    have e2 : tkL f t c L = L := by unfold tkL; rw [hfd]
    rw [e, e2]
    have H0 := hideL h
    clear h hfd e e2
    simp only [Option.getD_none, Option.isSome_none] at h1 ⊢
    go_enter Try.func13, Try.ntmps13
    go_wp2_with (first
      | (go_at_call 28; refine h1.mono ?_; rintro e w1 ⟨rfl, hb⟩; have HB := hideL hb; clear h1 hb)
      | fail)
    go_ret2
    exact ⟨_, rfl, ⟨rd_nil _, fun g hg => by simp [Value.ownBlock] at hg⟩, H0.out.on HB.out, Kf.of HB.out (Nat.le_refl _)⟩
  | some i =>
    obtain ⟨E, v, h, rfl⟩ := h
    obtain ⟨x, hx, _, _, hi, hpk, htk⟩ := fd_hit hfd
    rw [hpk, htk, Option.isSome_some]
    rw [List.length_map] at hl
    refine (lTake_hit h hl hfd hx).mono ?_
    rintro e w1 ⟨u, rfl, r2, ⟨v', _, p2⟩, k2⟩
    exact ⟨u, rfl, r2.keep (fun g hg hlt => ⟨hg.1, rfl⟩) (Nat.le_refl _), ⟨_, _, p2, rfl⟩, k2.mono (fun j hj => by
      rcases hj with rfl | hj
      · exact h.x
      · exact (h.oo j hj).1)⟩
set_option maxHeartbeats 1000000 in
theorem lDouble_any {w : World} {X : Nat} {F : Nat → Prop} {N : Int} {L : LtL} (h : PLM w X F N L) (hl : L.length ≤ 1000) (hb : ∀ x ∈ L, x.2.2.length ≤ 1000000) (f t c : Int) :
    Calls Try.prog 17 #[.pointer (some ⟨X, 0, none⟩), .int .i64 f, .int .i64 t, .int .i64 c] w fun e w' => e = .returned (.int .i64 (dbL f t c L).1) ∧ PLM w' X (nF F w) N (dbL f t c L).2 ∧ Kf F w w' := by
  have h1 := lFind_any h hl f t c
  have H0 := hideL h
  cases hfd : fd f t c 0 0 L with
  | none =>
    rw [hfd] at h1
    have e : dbL f t c L = (5, L) := by unfold dbL; rw [hfd]
    rw [e]
    clear h hfd e hb
    simp only [Option.getD_none, Option.isSome_none] at h1 ⊢
    go_enter Try.func17, Try.ntmps17
    go_wp2_with (first
      | (go_at_call 28; refine h1.mono ?_; rintro e w1 ⟨rfl, hb⟩; have HB := hideL hb; clear h1 hb)
      | fail)
    go_ret
    exact ⟨rfl, (H0.out.on HB.out).wide, Kf.of HB.out (Nat.le_refl _)⟩
  | some i =>
    rw [hfd] at h1
    have e : dbL f t c L = addL L f t (pkL f t c L) := by unfold dbL; rw [hfd]
    rw [e]
    obtain ⟨E, v, h, rfl⟩ := h
    obtain ⟨x, hx, _, _, hi, hpk, _⟩ := fd_hit hfd
    rw [hpk]
    have hxb := hb (el x) (List.mem_map_of_mem (List.mem_of_getElem? hx))
    obtain ⟨g, cap, rfl, hcl, hcm, hgl, hc, hfz⟩ := own3_at h.o (by omega)
    obtain ⟨d0, d1, d2⟩ := hc i x hx
    obtain ⟨c1, f1⟩ := h.c 1 _ rfl
    have hxr := (h.s x (List.mem_of_getElem? hx)).r
    have hXl := h.lt
    obtain ⟨x1, x2, xv, xb⟩ := x
    simp only at d2 hxr
    have hadd := fun W (hb : Below w.heap.size w W) => ladd_all (H0.out.on hb) f t (hxr.below hb (Nat.le_refl _)) hxb
    have i1 : (0 : Int) ≤ (i : Int) := by omega
    have i3 : (i : Int) < (E.length : Int) := by omega
    simp only [Option.getD_some, Option.isSome_some] at h1 ⊢
    generalize addL (E.map el) f t xb = R at *
    clear h hc hx hfd hpk hb d0 d1 hxr e
    go_enter Try.func17, Try.ntmps17
    go_wp2_with (first
      | (go_at_call 28; refine h1.mono ?_; rintro e w1 ⟨rfl, hb⟩; have c2 := (hb.cell (p := ⟨X, 1, none⟩) hXl).trans c1; have d3 := (hb.cell (p := ⟨g, i * 3 + 2, none⟩) hgl).trans d2; have hadd3 := hadd w1 hb; have HB := hideL hb; clear h1 hb hadd)
      | (go_at_call 26; refine hadd3.mono ?_; rintro e w2 ⟨rfl, p2, k2⟩; have HP := hideL (And.intro p2 k2); clear hadd3 p2 k2)
      | fail)
    obtain ⟨p2, k2⟩ := HP.out
    go_ret
    exact ⟨rfl, p2.keep (fun _ _ _ => rfl) (fun j _ hj => hj.elim .inl (fun e => .inr (Nat.le_trans HB.out.size e))) (Nat.le_refl _), (Kf.of HB.out (Nat.le_refl _)).trans k2⟩
set_option maxRecDepth 100000 in
set_option maxHeartbeats 2000000 in
theorem lTurn_any {w : World} {X : Nat} {F : Nat → Prop} {N : Int} {L : LtL} (h : PLM w X F N L) (hl : L.length ≤ 1000) (f t : Int) :
    Calls Try.prog 19 #[.pointer (some ⟨X, 0, none⟩), .int .i64 f, .int .i64 t] w fun e w' => e = .returned (.bool (decide (2 ≤ (sel f t L).length))) ∧ PLM w' X (nF F w) N (if 2 ≤ (sel f t L).length then trL f t L else L) ∧ Kf F w w' := by
  have h1 := lCount_any h hl f t
  have H0 := hideL h
  obtain ⟨n, hn⟩ : ∃ n, (sel f t L).length = n := ⟨_, rfl⟩
  rw [hn] at h1 ⊢
  by_cases h2 : 2 ≤ n
  · rw [if_pos h2, decide_eq_true h2]
    have k1 : ¬ (n : Int) < 2 := by omega
    have hfd2 : ∃ i, fd f t 0 0 0 L = some i := by
      rcases fd_spec f t 0 L 0 0 with ⟨i, k, x, q1, _⟩ | ⟨_, q2⟩
      · exact ⟨_, q1⟩
      · omega
    obtain ⟨i, hfd⟩ := hfd2
    obtain ⟨E, v, h, rfl⟩ := h
    obtain ⟨x, hx, e1, e2, hi, hpk, htk⟩ := fd_hit hfd
    rw [List.length_map] at hl
    have htr : trL f t (E.map el) = (E.take i ++ E.drop (i + 1) ++ [x]).map el := by
      unfold trL
      rw [htk, hpk, ← e1, ← e2, List.map_append (l₂ := [x])]
      rfl
    rw [htr]
    have hf2 := fun W (hb : Below w.heap.size w W) => lFind_any (H0.out.on hb) (by rw [List.length_map]; exact hl) f t 0
    rw [hfd] at hf2
    simp only [Option.getD_some, Option.isSome_some] at hf2
    obtain ⟨i0, hi0, hz0, hz1, hz2⟩ := inf_getL Try.infoLt
    obtain ⟨xa, xc, hxv, _⟩ := (h.s x (List.mem_of_getElem? hx)).r
    obtain ⟨x1, x2, xv, xb⟩ := x
    simp only at hxv
    subst hxv
    have hrem : ∀ W, Below w.heap.size w W → Calls Try.prog 29 #[.pointer (some ⟨X, 0, none⟩), .int .i64 (i : Int)] W fun e w' => e = .returned (.agg #[.int .i64 x1, .int .i64 x2, .slice xa xb.length xc]) ∧ (∃ v', v'.ownBlock = v.ownBlock ∧ PL w' X F N (E.take i ++ E.drop (i + 1)) v') ∧ Kf (fun j => j = X ∨ v.ownBlock = some j) W w' ∧ RB w' (fun g => F g ∧ g ≠ X ∧ v.ownBlock ≠ some g) (.slice xa xb.length xc) xb := fun W hb =>
      lRemove_any (h.keep (fun b _ hlt => hb.block b hlt) (fun _ _ h => h) hb.size : PL W X F N E v) hx hl
    have hEl : (E.take i ++ E.drop (i + 1)).length + 1 = E.length := by rw [List.length_append, List.length_take, List.length_drop]; omega
    have hXl := h.lt
    have HK := hideL (show ∀ j, j = X ∨ v.ownBlock = some j → F j from fun j hj => by
      rcases hj with rfl | hj
      · exact h.x
      · exact (h.oo j hj).1)
    generalize E.take i ++ E.drop (i + 1) = E' at *
    clear h hx hfd hpk htk htr hn e1 e2
    go_enter Try.func19, Try.ntmps19
    go_wp2_with (first
      | (go_at_call 23; refine h1.mono ?_; rintro e w1 ⟨rfl, hb⟩; have hf3 := hf2 w1 hb; have HB := hideL hb; clear h1 hb hf2)
      | (go_at_call 28; refine hf3.mono ?_; rintro e w2 ⟨rfl, hb2⟩; have HB2 := hideL (HB.out.trans (hb2.mono HB.out.size)); have hp := hrem w2 HB2.out; clear hb2 HB hf3 hrem)
      | (go_at_call 29; refine hp.mono ?_; rintro e w3 ⟨rfl, ⟨v2, hv2, p2⟩, k2, r2⟩; obtain ⟨c1, f1⟩ := p2.c 1 _ rfl; obtain ⟨va, vc, hvf, _, _⟩ := p2.form; subst hvf; have hX3 := p2.lt; have HP := hideL (And.intro p2 (And.intro k2 r2)); clear hp p2 k2 r2)
      | fail)
    have hsz : (w3.alloc (.cells #[.int .i64 x1, .int .i64 x2, .slice xa xb.length xc] 60)).drew.heap.size = w3.heap.size + 1 := by simp
    have hsrc := src_lt 45 Try.underlying45 (w3.alloc (.cells #[.int .i64 x1, .int .i64 x2, .slice xa xb.length xc] 60)).drew (x1, x2, .slice xa xb.length xc, xb) rfl
    rw [hsz] at hsrc
    have hal : Below w3.heap.size w3 ((w3.alloc (.cells #[.int .i64 x1, .int .i64 x2, .slice xa xb.length xc] 60)).drew.alloc (.cells #[.int .i64 x1, .int .i64 x2, .slice xa xb.length xc] 60)) := (((Below.refl _ _).alloc (Nat.le_refl _) _).drew).alloc (by rw [hsz]; omega) _
    have hpush := fun vb wb hO hg hat => pl_push (v' := vb) (wb := wb) (x := (x1, x2, .slice xa xb.length xc, xb)) HP.out.1 hal (.inr (by rw [hv2]; exact HP.out.2.2.keep (fun g hg hlt => ⟨hg, hal.block g hlt⟩) hal.size)) hO hg hat
    have hO3 := own3_on HP.out.1.o hal
    have HH := hideL (And.intro hsrc (And.intro hpush hO3))
    have hnl : E'.length ≤ 1000 := by omega
    clear hsrc hal hpush hO3 hsz hEl
    generalize hm : E'.length = m at *
    go_region_law ((refine step_append_at ((w3.alloc (.cells #[.int .i64 x1, .int .i64 x2, .slice xa xb.length xc] 60)).drew.alloc (.cells #[.int .i64 x1, .int .i64 x2, .slice xa xb.length xc] 60)) (by rfl) (.tmp 29) (.tmp 31) 45 45 (by rfl) 0 60 i0 (.agg #[.int .i64 0, .int .i64 0, .slice none 0 0]) 3 40 Try.underlying45 hi0 hz0 hz1 hz2 rfl (.slice va m vc) m (cel3 E') (by rfl) HH.out.2.2 _ 1 (cel3 [(x1, x2, .slice xa xb.length xc, xb)]) (by rfl) HH.out.1 1 (.inr (by omega)) (Nat.le_refl _) (by unfold maxLen; omega) (by omega) ?_; intro vb wb hOb hgb hat; obtain ⟨hBb, hPb, hKb⟩ := HH.out.2.1 vb wb hOb hgb hat; obtain ⟨ya, yc, hvb, _, _⟩ := hPb.form; rw [List.length_append, List.length_singleton, hm] at hvb; subst hvb; obtain ⟨c5, g5⟩ := hBb 1 _ rfl; have HPb := hideL (And.intro hPb hKb); clear hOb hgb hat hBb hPb hKb HH))
    all_goals (
      obtain ⟨p4, k4⟩ := HPb.out
      have hs3 := Nat.le_trans HB2.out.size HP.out.2.1.size
      go_wp2
      go_ret
      exact ⟨rfl, ⟨_, _, p4.keep (fun _ _ _ => rfl) (fun j _ hj => hj.elim .inl (fun e => .inr (Nat.le_trans hs3 e))) (Nat.le_refl _), rfl⟩, ((Kf.of HB2.out (Nat.le_refl _)).trans (HP.out.2.1.mono HK.out)).trans k4⟩)
  · rw [if_neg h2, decide_eq_false h2]
    have k1 : (n : Int) < 2 := by omega
    clear h hn
    go_enter Try.func19, Try.ntmps19
    go_wp2_with (first
      | (go_at_call 23; refine h1.mono ?_; rintro e w1 ⟨rfl, hb⟩; have HB := hideL hb; clear h1 hb)
      | fail)
    go_ret
    exact ⟨rfl, (H0.out.on HB.out).wide, Kf.of HB.out (Nat.le_refl _)⟩

/-- A row of rows of bytes: each with its slice. -/
abbrev Zb := List (Value × List Int)
theorem blk_lt {w w' : World} {g : Nat} (h : w'.heap[g]? = w.heap[g]?) (hl : g < w.heap.size) : g < w'.heap.size := by
  rcases Nat.lt_or_ge g w'.heap.size with h2 | h2
  · exact h2
  · rw [Array.getElem?_eq_none h2, Array.getElem?_eq_getElem hl] at h
    cases h
theorem RB.stay {w w' : World} {ok ok' : Nat → Prop} {v : Value} {b : List Int} (h : RB w ok v b) (hk : ∀ g, ok g → g < w.heap.size → ok' g ∧ w'.heap[g]? = w.heap[g]?) : RB w' ok' v b := by
  refine ⟨?_, fun g hg => ⟨(hk g (h.o g hg).1 (h.o g hg).2).1, blk_lt (hk g (h.o g hg).1 (h.o g hg).2).2 (h.o g hg).2⟩⟩
  have ho := h.o
  obtain ⟨a, cap, rfl, hc, hm, hn, hcell⟩ := h.r
  refine ⟨a, cap, rfl, hc, hm, hn, fun x hx i hi => ?_⟩
  subst hx
  have h1 := hcell x rfl i hi
  have h2 := ho x.block rfl
  have hb : (x.add i).block = x.block := by unfold Addr.add; split <;> rfl
  exact keep_cell (p := x.add i) (by rw [hb]; exact (hk _ h2.1 h2.2).2) h1
structure RW (w : World) (ok : Nat → Prop) (v : Value) (Z : Zb) : Prop where
  f : (v = .slice none 0 0 ∧ Z = []) ∨ ∃ g cap, v = .slice (some ⟨g, 0, none⟩) Z.length cap ∧ Z.length ≤ cap ∧ cap ≤ maxLen ∧ ok g ∧ g < w.heap.size ∧ ∀ i z, Z[i]? = some z → w.cell? ⟨g, i, none⟩ = some z.1
  s : ∀ z ∈ Z, RB w ok z.1 z.2
theorem RW.nil (w : World) (ok : Nat → Prop) : RW w ok (.slice none 0 0) [] := ⟨.inl ⟨rfl, rfl⟩, fun z hz => by simp at hz⟩
theorem RW.form {w : World} {ok : Nat → Prop} {v : Value} {Z : Zb} (h : RW w ok v Z) : ∃ a cap, v = .slice a Z.length cap ∧ Z.length ≤ cap ∧ cap ≤ maxLen := by
  rcases h.f with ⟨rfl, rfl⟩ | ⟨g, cap, rfl, h1, h2, _⟩
  · exact ⟨none, 0, rfl, Nat.le_refl _, by simp [maxLen]⟩
  · exact ⟨_, cap, rfl, h1, h2⟩
theorem RW.keep {w w' : World} {ok ok' : Nat → Prop} {v : Value} {Z : Zb} (h : RW w ok v Z) (hk : ∀ g, ok g → g < w.heap.size → ok' g ∧ w'.heap[g]? = w.heap[g]?) : RW w' ok' v Z := by
  refine ⟨?_, fun z hz => (h.s z hz).stay hk⟩
  rcases h.f with h1 | ⟨g, cap, rfl, h1, h2, h3, h4, h5⟩
  · exact .inl h1
  · obtain ⟨k1, k2⟩ := hk g h3 h4
    exact .inr ⟨g, cap, rfl, h1, h2, k1, blk_lt k2 h4, fun i z hz => keep_cell (p := ⟨g, i, none⟩) k2 (h5 i z hz)⟩
theorem zb_one {w : World} {ok : Nat → Prop} {Z : Zb} (h : ∀ z ∈ Z, RB w ok z.1 z.2) : ∀ u ∈ Z.map (·.1), u.oneCell' = true := fun u hu => by
  obtain ⟨z, hz, rfl⟩ := List.mem_map.1 hu
  exact (h z hz).one
/-- A row that is the call's own, as a row of rows. -/
theorem own_RW {w : World} {base e : Nat} {ok : Nat → Prop} {v : Value} {Z : Zb} (h : w.ownsRow base e 1 v Z.length (Z.map (·.1))) (hs : ∀ z ∈ Z, RB w ok z.1 z.2) (ho : ∀ g, v.ownBlock = some g → ok g) : RW w ok v Z := by
  refine ⟨?_, hs⟩
  have hc := fun g => World.ownsRow.cells h (g := g)
  rcases h.2 with ⟨rfl, h2⟩ | ⟨g, cap, cur, rfl, hb, hg, h3, h4, _⟩
  · exact .inl ⟨rfl, List.eq_nil_of_length_eq_zero h2⟩
  · refine .inr ⟨g, cap, rfl, h3, h4, ho g rfl, (Array.getElem?_eq_some_iff.1 hg).1, fun i z hz => ?_⟩
    have := hc g rfl i z.1 (by rw [List.getElem?_map, hz]; rfl)
    rwa [add_plain, Nat.zero_add] at this
/-- A link, as its letters are. -/
def ml (x : L3 Zb) : Lk := (x.1, x.2.1, x.2.2.2.map (·.2))
/-- The document's links in block Y. -/
structure QL (w : World) (Y : Nat) (G : Nat → Prop) (N : Int) (E : List (L3 Zb)) (u : Value) : Prop where
  y : G Y
  c : Bn w Y [.int .i64 N, u]
  o : w.ownsRow 0 56 3 u E.length (cel3 E)
  oo : ∀ g, u.ownBlock = some g → G g ∧ g ≠ Y
  s : ∀ x ∈ E, RW w (fun g => G g ∧ g ≠ Y ∧ u.ownBlock ≠ some g) x.2.2.1 x.2.2.2
def QLM (w : World) (Y : Nat) (G : Nat → Prop) (N : Int) (D : List Lk) : Prop := ∃ E u, QL w Y G N E u ∧ E.map ml = D
theorem QL.lt {w : World} {Y : Nat} {G : Nat → Prop} {N : Int} {E : List (L3 Zb)} {u : Value} (h : QL w Y G N E u) : Y < w.heap.size := h.c.lt
theorem QL.keep {w w' : World} {Y : Nat} {G H : Nat → Prop} {N : Int} {E : List (L3 Zb)} {u : Value} (h : QL w Y G N E u) (hk : ∀ b, G b → b < w.heap.size → w'.heap[b]? = w.heap[b]?) (hGH : ∀ j, j < w.heap.size → G j → H j) : QL w' Y H N E u :=
  ⟨hGH Y h.lt h.y, h.c.blk (hk Y h.y h.lt), ownsRow_keep h.o (fun g hg => hk g (h.oo g hg).1 (ownsRow_lt h.o g hg).2), fun g hg => ⟨hGH g (ownsRow_lt h.o g hg).2 (h.oo g hg).1, (h.oo g hg).2⟩,
    fun x hx => (h.s x hx).keep (fun g hg hlt => ⟨⟨hGH g hlt hg.1, hg.2⟩, hk g hg.1 hlt⟩)⟩
theorem QLM.keep {w w' : World} {Y : Nat} {G H : Nat → Prop} {N : Int} {D : List Lk} (h : QLM w Y G N D) (hk : ∀ b, G b → b < w.heap.size → w'.heap[b]? = w.heap[b]?) (hGH : ∀ j, j < w.heap.size → G j → H j) : QLM w' Y H N D := by
  obtain ⟨E, v, h1, h2⟩ := h
  exact ⟨E, v, h1.keep hk hGH, h2⟩
theorem QL.on {w w' : World} {Y : Nat} {G : Nat → Prop} {N : Int} {E : List (L3 Zb)} {u : Value} (h : QL w Y G N E u) (hb : Below w.heap.size w w') : QL w' Y G N E u := h.keep (fun b _ hlt => hb.block b hlt) (fun _ _ h => h)
theorem QLM.on {w w' : World} {Y : Nat} {G : Nat → Prop} {N : Int} {D : List Lk} (h : QLM w Y G N D) (hb : Below w.heap.size w w') : QLM w' Y G N D := h.keep (fun b _ hlt => hb.block b hlt) (fun _ _ h => h)
theorem rNew_any (w : World) (n : Int) : Calls Try.prog 10 #[.int .i64 n] w fun e w' => e = .returned (.pointer (some ⟨w.heap.size, 0, none⟩)) ∧ QLM w' w.heap.size (fun j => j = w.heap.size) (ptN n) [] ∧ Below w.heap.size w w' := by
  have hp : ∀ m : Int, m = ptN n → QLM (w.alloc (.cells #[.int .i64 m, .slice none 0 0] 50)) w.heap.size (fun j => j = w.heap.size) (ptN n) [] := fun m hm => by
    subst hm
    exact ⟨[], _, ⟨rfl, Bn.new w [.int .i64 (ptN n), .slice none 0 0] _ _ rfl, World.ownsRow_nil _ 0 56 3, fun g hg => (by simp [Value.ownBlock] at hg), fun x hx => (by simp at hx)⟩, rfl⟩
  by_cases hn : n < 0
  · have hmx : max n 0 = 0 := by omega
    go_enter Try.func10, Try.ntmps10
    go_wp2
    go_ret
    exact ⟨rfl, hp _ (by unfold ptN; omega), (Below.refl _ _).alloc (Nat.le_refl _) _⟩
  · by_cases h1 : 100 < n
    · have h2 : ¬ n < 100 := by omega
      go_enter Try.func10, Try.ntmps10
      go_wp2
      go_ret
      exact ⟨rfl, hp _ (by unfold ptN; omega), (Below.refl _ _).alloc (Nat.le_refl _) _⟩
    · go_enter Try.func10, Try.ntmps10
      go_wp2
      go_ret
      exact ⟨rfl, hp _ (by unfold ptN; omega), (Below.refl _ _).alloc (Nat.le_refl _) _⟩
theorem Try.infoLk : (Try.prog.info? 56).map (fun i => (i.zero, i.size, i.bytes)) = some (some (.agg #[.int .i64 0, .int .i64 0, .slice none 0 0]), 3, 40) := by kernel_rfl
set_option maxHeartbeats 1000000 in
theorem rFind_bad {w : World} {Y : Nat} {G : Nat → Prop} {N : Int} {D : List Lk} (h : QLM w Y G N D) {f t : Int} (hp : ¬ Pty N f t) :
    Calls Try.prog 27 #[.pointer (some ⟨Y, 0, none⟩), .int .i64 f, .int .i64 t] w fun e w' => e = .returned (.pointer none) ∧ w' = w := by
  obtain ⟨E, u, h, rfl⟩ := h
  obtain ⟨c0, f0⟩ := h.c 0 _ rfl
  clear h
  unfold Pty at hp
  by_cases h1 : f < 0
  · go_enter Try.func27, Try.ntmps27
    go_wp2
    go_ret
    exact ⟨rfl, rfl⟩
  by_cases h2 : t < 0
  · go_enter Try.func27, Try.ntmps27
    go_wp2
    go_ret
    exact ⟨rfl, rfl⟩
  by_cases h3 : f ≥ N
  · go_enter Try.func27, Try.ntmps27
    go_wp2
    go_ret
    exact ⟨rfl, rfl⟩
  by_cases h4 : t ≥ N
  · go_enter Try.func27, Try.ntmps27
    go_wp2
    go_ret
    exact ⟨rfl, rfl⟩
  have h5 : f = t := by omega
  subst h5
  go_enter Try.func27, Try.ntmps27
  go_wp2
  go_ret
  exact ⟨rfl, rfl⟩
theorem src_lk (t : TypeId) (ht : Try.prog.underlying t = some (.slice 56)) (wa : World) (x : L3 Zb) (h1 : x.2.2.1.oneCell' = true) : Src Try.prog 3 t (.slice (some ⟨wa.heap.size, 0, none⟩) 1 1) 1 (cel3 [x]) (wa.alloc (.cells #[.int .i64 x.1, .int .i64 x.2.1, x.2.2.1] 56)) := by
  refine Src.ofSlice _ ht _ 1 1 _ rfl (fun j u hj => ?_) (oc_3 (fun y hy => by rw [List.mem_singleton.1 hy]; exact h1))
  rw [add_plain, Nat.zero_add]
  have hB : Bn (wa.alloc (.cells #[.int .i64 x.1, .int .i64 x.2.1, x.2.2.1] 56)) wa.heap.size [.int .i64 x.1, .int .i64 x.2.1, x.2.2.1] := Bn.new wa [.int .i64 x.1, .int .i64 x.2.1, x.2.2.1] _ _ rfl
  exact (hB j u hj).1
/-- A link more, in a row that has grown. -/
theorem ql_push {w W wb : World} {X : Nat} {F : Nat → Prop} {N : Int} {E : List (L3 Zb)} {v v' : Value} {x : L3 Zb} (h : QL w X F N E v) (hW : Below w.heap.size w W) (hx : RW W (fun g => w.heap.size ≤ g) x.2.2.1 x.2.2.2 ∨ (RW W (fun g => F g ∧ g ≠ X ∧ v.ownBlock ≠ some g) x.2.2.1 x.2.2.2))
    (hO : wb.ownsRow 0 56 3 v' (E.length + 1) (cel3 E ++ cel3 [x])) (hg : W.grownBy wb v.ownBlock) (hat : v'.ownBlock = v.ownBlock ∨ v'.ownBlock = some W.heap.size) :
    Bn wb X [.int .i64 N, v] ∧ QL (wb.setCell ⟨X, 1, none⟩ v') X (nF F w) N (E ++ [x]) v' ∧ Kf F w (wb.setCell ⟨X, 1, none⟩ v') := by
  have hXl := h.lt
  have hWs := hW.size
  have hvl : ∀ g, v.ownBlock = some g → g < w.heap.size := fun g hg => (ownsRow_lt h.o g hg).2
  have hXv : v.ownBlock ≠ some X := fun e => (h.oo X e).2 rfl
  have bl : ∀ k, k < W.heap.size → v.ownBlock ≠ some k → wb.heap[k]? = W.heap[k]? := fun k hk hne => hg.block k hk (fun e => hne e.symm)
  have hBb : Bn wb X [.int .i64 N, v] := (h.c.on hW).blk (bl X (by omega) hXv)
  have hv' : ∀ g, v'.ownBlock = some g → nF F w g ∧ g ≠ X := fun g hg' => by
    rcases hat with e | e
    · rw [e] at hg'
      exact ⟨.inl (h.oo g hg').1, (h.oo g hg').2⟩
    · rw [e] at hg'
      have := Option.some.inj hg'
      exact ⟨.inr (by omega), by omega⟩
  have key : ∀ g, g ≠ X → g < W.heap.size → v.ownBlock ≠ some g → v'.ownBlock ≠ some g ∧ (wb.setCell ⟨X, 1, none⟩ v').heap[g]? = W.heap[g]? := fun g hgX hlt hne => by
    refine ⟨fun e => ?_, (Below.heap_setCell _ _ _ _ (fun e => hgX e)).trans (bl g hlt hne)⟩
    rcases hat with q | q
    · rw [q] at e
      exact hne e
    · rw [q] at e
      have := Option.some.inj e
      omega
  have hss : W.heap.size ≤ (wb.setCell ⟨X, 1, none⟩ v').heap.size := by simpa using hg.size
  refine ⟨hBb, ⟨.inl h.y, hBb.set (i := 1) (by simp) v', ?_, fun g hg' => hv' g hg', fun y hy => ?_⟩, ((Kf.of hW (Nat.le_refl _)).trans (Kf.grown hg (fun k hk => (h.oo k hk).1))).set h.y _⟩
  · rw [List.length_append, cel3_app]
    exact ownsRow_keep hO (fun g hg' => Below.heap_setCell _ _ _ _ (fun e => (hv' g hg').2 e))
  · rcases List.mem_append.1 hy with hy | hy
    · have h1 : RW W (fun g => F g ∧ g ≠ X ∧ v.ownBlock ≠ some g) y.2.2.1 y.2.2.2 := (h.s y hy).keep (fun g hg hlt => ⟨hg, hW.block g hlt⟩)
      refine h1.keep (fun g hgp hlt => ?_)
      obtain ⟨k1, k2⟩ := key g hgp.2.1 hlt hgp.2.2
      exact ⟨⟨.inl hgp.1, hgp.2.1, k1⟩, k2⟩
    · rw [List.mem_singleton.1 hy]
      rcases hx with hx | hx
      · refine hx.keep (fun g hgp hlt => ?_)
        obtain ⟨k1, k2⟩ := key g (by omega) hlt (fun e => by have := hvl g e; omega)
        exact ⟨⟨.inr hgp, by omega, k1⟩, k2⟩
      · refine hx.keep (fun g hgp hlt => ?_)
        obtain ⟨k1, k2⟩ := key g hgp.2.1 hlt hgp.2.2
        exact ⟨⟨.inl hgp.1, hgp.2.1, k1⟩, k2⟩
theorem ix_el (f t : Int) (p : Nat) (x1 x2 : Int) (v : Value) (z : Zb) (r : List Lk) : ix f t p (ml (x1, x2, v, z) :: r) = if x1 = f ∧ x2 = t then some p else ix f t (p + 1) r := rfl
theorem drop_ml {E : List (L3 Zb)} {j : Nat} (h : j < E.length) : ∃ x, E[j]? = some x ∧ (E.map ml).drop j = ml x :: (E.map ml).drop (j + 1) := by
  refine ⟨E[j], List.getElem?_eq_getElem h, ?_⟩
  rw [List.drop_eq_getElem_cons (by simpa using h), List.getElem_map]
theorem QL.bn {w : World} {Y : Nat} {G : Nat → Prop} {N : Int} {E : List (L3 Zb)} {u : Value} (h : QL w Y G N E u) : w.cell? ⟨Y, 1, none⟩ = some u := (h.c 1 _ rfl).1
set_option maxRecDepth 100000 in
set_option maxHeartbeats 2000000 in
theorem rFind_any {w : World} {Y : Nat} {G : Nat → Prop} {N : Int} {E : List (L3 Zb)} {u : Value} (h : QL w Y G N E u) (hl : E.length ≤ 1000) {f t : Int} (hp : Pty N f t) :
    Calls Try.prog 27 #[.pointer (some ⟨Y, 0, none⟩), .int .i64 f, .int .i64 t] w fun e w' => ∃ g', e = .returned (.pointer (some ⟨g', (fnd f t (E.map ml)).1 * 3, none⟩)) ∧ (∃ E' u', QL w' Y (nF G w) N E' u' ∧ u'.ownBlock = some g' ∧ E'.map ml = (fnd f t (E.map ml)).2) ∧ Kf G w w' := by
  obtain ⟨p1, p2, p3, p4, p5⟩ := hp
  have q1 : ¬ f < 0 := by omega
  have q2 : ¬ t < 0 := by omega
  have q3 : ¬ f ≥ N := by omega
  have q4 : ¬ t ≥ N := by omega
  obtain ⟨c0, f0⟩ := h.c 0 _ rfl
  obtain ⟨c1, f1⟩ := h.c 1 _ rfl
  obtain ⟨a, cap, hu, hlc, _⟩ := own3_form h.o
  have H0 := hideL h
  subst hu
  obtain ⟨R, hR⟩ : ∃ R, ix f t 0 (E.map ml) = R := ⟨_, rfl⟩
  have HR := hideL hR
  obtain ⟨P, hP⟩ : ∃ P, fnd f t (E.map ml) = P := ⟨_, rfl⟩
  have HP := hideL hP
  rw [hP]
  clear hP
  have HS0 := hideL (show ix f t 0 ((E.map ml).drop 0) = R by rw [List.drop_zero]; exact hR)
  obtain ⟨i0, hi0, hz0, hz1, hz2⟩ := inf_getL Try.infoLk
  have hYl := h.lt
  clear h hR
  go_enter Try.func27, Try.ntmps27
  go_wp2
  go_loopw [40] (fun i wr => ∃ (j : Nat), j ≤ E.length ∧ i = .int .i64 (j : Int) ∧ Hid (ix f t j ((E.map ml).drop j) = R) ∧ Below w.heap.size w wr) (fun i _ => E.length - (RowKit.intOf i).toNat)
  case atStart => exact ⟨0, Nat.zero_le _, rfl, HS0, Below.refl _ _⟩
  case round =>
    obtain ⟨j, hj, rfl, HS, hb⟩ := hrel
    clear HS0 c0 c1
    have HB := hideL hb
    have d1 := (H0.out.on hb).bn
    have g1 := ((H0.out.on hb).c 1 _ rfl).2
    by_cases hlt : j < E.length
    · obtain ⟨g, C, e, _, _, hg, hc, _⟩ := own3_at (H0.out.on hb).o (by omega)
      simp only [Value.slice.injEq, true_and] at e
      obtain ⟨rfl, rfl⟩ := e
      obtain ⟨x, hx, hd⟩ := drop_ml hlt
      obtain ⟨e0, e1, e2⟩ := hc j x hx
      have hs := HS.out
      rw [hd] at hs
      have k1 : (j : Int) < (E.length : Int) := by omega
      have k2 : (0 : Int) ≤ (j : Int) := by omega
      have hbs := hb.size
      obtain ⟨x1, x2, xv, xb⟩ := x
      rw [ix_el] at hs
      simp only at e0 e1
      clear hc hx hd HS hb e2 g1
      by_cases h1 : x1 = f
      · by_cases h2 : x2 = t
        · rw [if_pos ⟨h1, h2⟩] at hs
          subst hs
          have hf : P = (j, E.map ml) := by rw [← HP.out]; unfold fnd; rw [HR.out]
          clear HR
          have HF := hideL hf
          clear hf
          go_wp2
          go_ret
          rw [HF.out]
          exact ⟨g, rfl, ⟨E, _, (H0.out.on HB.out).keep (fun _ _ _ => rfl) (fun _ _ h => .inl h), rfl, rfl⟩, Kf.of HB.out (Nat.le_refl _)⟩
        · rw [if_neg (fun e => h2 e.2)] at hs
          have HS := hideL hs
          clear hs
          go_wp2
          go_roundw
          case rel => exact ⟨j + 1, hlt, by go_num, HS, HB.out⟩
          case measure => simp [RowKit.intOf]; omega
      · rw [if_neg (fun e => h1 e.1)] at hs
        have HS := hideL hs
        clear hs
        go_wp2
        go_roundw
        case rel => exact ⟨j + 1, hlt, by go_num, HS, HB.out⟩
        case measure => simp [RowKit.intOf]; omega
    · have k1 : ¬ (j : Int) < (E.length : Int) := by omega
      have hs := HS.out
      rw [List.drop_eq_nil_of_le (by simpa using Nat.le_of_not_lt hlt)] at hs
      have hs' : none = R := hs
      subst hs'
      have hf : P = (E.length, E.map ml ++ [(f, t, [])]) := by rw [← HP.out]; unfold fnd; rw [HR.out]; simp
      have HF := hideL hf
      have H1 := hideL (H0.out.on hb)
      have hYl2 : Y < wr.heap.size := Nat.lt_of_lt_of_le hYl hb.size
      have hal : Below wr.heap.size wr (wr.alloc (.cells #[.int .i64 f, .int .i64 t, .slice none 0 0] 56)) := (Below.refl _ _).alloc (Nat.le_refl _) _
      have hpush := fun vb wb hO hg hat => ql_push (v' := vb) (wb := wb) (x := (f, t, .slice none 0 0, ([] : Zb))) H1.out hal (.inl (RW.nil _ _)) hO hg hat
      have hsrc := src_lk 48 Try.underlying48 wr (f, t, .slice none 0 0, ([] : Zb)) rfl
      have HH := hideL (And.intro hsrc (And.intro hpush (own3_on H1.out.o hal)))
      obtain ⟨m, hm⟩ : ∃ m, E.length = m := ⟨_, rfl⟩
      have HM := hideL hm
      rw [hm] at hl HH HF d1 k1 ⊢
      have w1 : IntKind.i64.wrap ((m : Int) + 1 - 1) = (m : Int) := by rw [IntKind.wrap_i64]; omega
      have w2 : wrap64 ((m : Int) + 1 - 1) = (m : Int) := by unfold wrap64; omega
      have w3 : (0 : Int) ≤ (m : Int) := by omega
      have w4 : (m : Int) < (m : Int) + 1 := by omega
      clear HS hs hf HR hb hal hpush hsrc hm hlt hj
      go_wp2_with (first
        | (at_builtin; refine wpList_append_at _ rfl (.tmp 76) (.tmp 80) 48 48 rfl 0 56 i0 (.agg #[.int .i64 0, .int .i64 0, .slice none 0 0]) 3 40 Try.underlying48 hi0 hz0 hz1 hz2 rfl (.slice a m cap) m (cel3 E) rfl HH.out.2.2 _ 1 (cel3 [(f, t, .slice none 0 0, ([] : Zb))]) rfl HH.out.1 1 (.inr (by omega)) (Nat.le_refl _) (by unfold maxLen; omega) (by omega) ?_; intro vb wb hOb hgb hat; obtain ⟨hBb, hPb, hKb⟩ := HH.out.2.1 vb wb hOb hgb hat; obtain ⟨gb, cb, hvb, _, _, _, _, _⟩ := own3_at hPb.o (by rw [List.length_append, List.length_singleton]; omega); rw [List.length_append, List.length_singleton, HM.out] at hvb; subst hvb; obtain ⟨c5, g5⟩ := hBb 1 _ rfl; have HPb := hideL (And.intro hPb hKb); clear hOb hgb hat hBb hPb hKb HH)
        | fail)
      go_quiet (fail)
      go_wp2
      obtain ⟨q, k⟩ := HPb.out
      go_ret
      exact ⟨gb, by rw [HF.out]; rfl, ⟨_, _, q.keep (fun _ _ _ => rfl) (fun j _ hj => hj.elim .inl (fun e => .inr (Nat.le_trans HB.out.size e))), rfl, by rw [HF.out, List.map_append]; rfl⟩, ((Kf.of HB.out (Nat.le_refl _)).trans k).drewN _⟩
theorem tot_drop {D : List Lk} {j : Nat} {x : Lk} (h : D.drop j = x :: D.drop (j + 1)) : tot (D.drop j) = x.2.2.length + tot (D.drop (j + 1)) := by rw [h, tot_cons]
set_option maxRecDepth 100000 in
set_option maxHeartbeats 2000000 in
theorem rTotal_any {w : World} {Y : Nat} {G : Nat → Prop} {N : Int} {D : List Lk} (h : QLM w Y G N D) (hl : D.length ≤ 1000) (ht : tot D ≤ 100000) :
    Calls Try.prog 22 #[.pointer (some ⟨Y, 0, none⟩)] w fun e w' => e = .returned (.int .i64 (tot D : Int)) ∧ Below w.heap.size w w' := by
  obtain ⟨E, u, h, rfl⟩ := h
  rw [List.length_map] at hl
  obtain ⟨c1, f1⟩ := h.c 1 _ rfl
  obtain ⟨a, cap, hu, hlc, _⟩ := own3_form h.o
  have H0 := hideL h
  obtain ⟨R, hR⟩ : ∃ R, tot (E.map ml) = R := ⟨_, rfl⟩
  rw [hR] at ht ⊢
  have HS0 := hideL (show 0 + tot ((E.map ml).drop 0) = R by rw [List.drop_zero, Nat.zero_add]; exact hR)
  subst hu
  clear h hR
  go_enter Try.func22, Try.ntmps22
  go_wp2
  go_loopw [3, 10] (fun n i wr => ∃ (j k : Nat), j ≤ E.length ∧ i = .int .i64 (j : Int) ∧ n = .int .i64 (k : Int) ∧ Hid (k + tot ((E.map ml).drop j) = R) ∧ Below w.heap.size w wr) (fun _ i _ => E.length - (RowKit.intOf i).toNat)
  case atStart => exact ⟨0, 0, Nat.zero_le _, rfl, rfl, HS0, Below.refl _ _⟩
  case round =>
    obtain ⟨j, k, hj, rfl, rfl, HS, hb⟩ := hrel
    clear HS0 c1
    have HB := hideL hb
    have d1 := (H0.out.on hb).bn
    have g1 := ((H0.out.on hb).c 1 _ rfl).2
    by_cases hlt : j < E.length
    · obtain ⟨g, C, e, _, _, hg, hc, _⟩ := own3_at (H0.out.on hb).o (by omega)
      simp only [Value.slice.injEq, true_and] at e
      obtain ⟨rfl, rfl⟩ := e
      obtain ⟨x, hx, hd⟩ := drop_ml hlt
      obtain ⟨e0, e1, e2⟩ := hc j x hx
      obtain ⟨xa, xc, hxv, _, _⟩ := ((H0.out.on hb).s x (List.mem_of_getElem? hx)).form
      rw [hxv] at e2
      have hs := HS.out
      rw [tot_drop hd] at hs
      have hml : (ml x).2.2.length = x.2.2.2.length := by unfold ml; simp
      rw [hml] at hs
      obtain ⟨n, hn⟩ : ∃ n, x.2.2.2.length = n := ⟨_, rfl⟩
      rw [hn] at hs e2
      have HS := hideL (show (k + n) + tot ((E.map ml).drop (j + 1)) = R by omega)
      have hkn : k + n ≤ R := by omega
      have k1 : (j : Int) < (E.length : Int) := by omega
      have k2 : (0 : Int) ≤ (j : Int) := by omega
      clear hc hx hd hb e0 e1 hs hxv hml hn
      go_wp2
      go_roundw
      case rel => exact ⟨j + 1, k + n, hlt, by go_num, by go_num, HS, HB.out⟩
      case measure => simp [RowKit.intOf]; omega
    · have k1 : ¬ (j : Int) < (E.length : Int) := by omega
      have hs := HS.out
      rw [List.drop_eq_nil_of_le (by simpa using Nat.le_of_not_lt hlt)] at hs
      have hs' : k + 0 = R := hs
      rw [Nat.add_zero] at hs'
      subst hs'
      clear HS hs hb
      go_wp2
      go_ret
      exact ⟨rfl, HB.out⟩
theorem QLM.at {w : World} {Y : Nat} {G : Nat → Prop} {N : Int} {E : List (L3 Zb)} {u : Value} {D : List Lk} {g i : Nat} {f t : Int} {l : List (List Int)} (h : QL w Y G N E u) (hE : E.map ml = D) (hg : u.ownBlock = some g) (ha : Lat f t D i l) :
    ∃ v Z cap, u = .slice (some ⟨g, 0, none⟩) E.length cap ∧ E[i]? = some (f, t, v, Z) ∧ Z.map (·.2) = l ∧ w.cell? ⟨g, i * 3 + 2, none⟩ = some v ∧ w.frozen? ⟨g, i * 3 + 2, none⟩ = false ∧ RW w (fun b => G b ∧ b ≠ Y ∧ u.ownBlock ≠ some b) v Z ∧ g < w.heap.size := by
  obtain ⟨h1, h2, h3⟩ := ha
  rw [← hE] at h3 h2
  rw [List.length_map] at h2
  obtain ⟨g', cap, hu, _, _, hgl, hc, hf⟩ := own3_at h.o (by omega)
  rw [hu] at hg
  have e : g' = g := Option.some.inj hg
  subst e
  rw [List.getElem?_map] at h3
  cases hq : E[i]? with
  | none => rw [hq] at h3; cases h3
  | some x =>
    rw [hq] at h3
    have hx := Option.some.inj h3
    obtain ⟨x1, x2, xv, xz⟩ := x
    simp only [ml, Prod.mk.injEq] at hx
    obtain ⟨rfl, rfl, rfl⟩ := hx
    exact ⟨xv, xz, cap, hu, rfl, rfl, (hc i _ hq).2.2, hf _, h.s _ (List.mem_of_getElem? hq), hgl⟩
set_option maxHeartbeats 1000000 in
theorem rCount_bad {w : World} {Y : Nat} {G : Nat → Prop} {N : Int} {D : List Lk} (h : QLM w Y G N D) {f t : Int} (hp : ¬ Pty N f t) :
    Calls Try.prog 24 #[.pointer (some ⟨Y, 0, none⟩), .int .i64 f, .int .i64 t] w fun e w' => e = .returned (.int .i64 0) ∧ w' = w := by
  have h1 := rFind_bad h hp
  clear h
  go_enter Try.func24, Try.ntmps24
  go_wp2_with (first
    | (go_at_call 27; refine h1.mono ?_; rintro e w1 ⟨rfl, rfl⟩; clear h1)
    | fail)
  go_ret
  exact ⟨rfl, rfl⟩
set_option maxHeartbeats 1000000 in
theorem rCount_any {w : World} {Y : Nat} {G : Nat → Prop} {N : Int} {D : List Lk} (h : QLM w Y G N D) (hl : D.length ≤ 1000) {f t : Int} (hp : Pty N f t) :
    Calls Try.prog 24 #[.pointer (some ⟨Y, 0, none⟩), .int .i64 f, .int .i64 t] w fun e w' => e = .returned (.int .i64 ((gt f t D).length : Int)) ∧ QLM w' Y (nF G w) N (fnd f t D).2 ∧ Kf G w w' := by
  obtain ⟨E, u, h, rfl⟩ := h
  rw [List.length_map] at hl
  have h1 := rFind_any h hl hp
  have ha := (fnd_at f t (E.map ml)).1
  have HA := hideL ha
  generalize (fnd f t (E.map ml)).1 = i at *
  generalize (fnd f t (E.map ml)).2 = D' at *
  generalize gt f t (E.map ml) = l at *
  clear h ha
  have HAT := hideL (fun w1 g' E' u' (q : QL w1 Y (nF G w) N E' u') (hg : u'.ownBlock = some g') (hE : E'.map ml = D') => QLM.at q hE hg HA.out)
  go_enter Try.func24, Try.ntmps24
  go_wp2_with (first
    | (go_at_call 27; refine h1.mono ?_; rintro e w1 ⟨g', rfl, ⟨E', u', q, hg, hE⟩, k⟩; obtain ⟨v, Z, cap, hu, _, hZ, c2, _, hR, _⟩ := HAT.out w1 g' E' u' q hg hE; obtain ⟨za, zc, hv, _, _⟩ := hR.form; have hZl := congrArg List.length hZ; rw [List.length_map] at hZl; rw [hv, hZl] at c2; have HQ := hideL (And.intro q (And.intro hE k)); clear h1 q hg hE k hu hZ hR hv hZl)
    | fail)
  obtain ⟨q, hE, k⟩ := HQ.out
  go_ret
  exact ⟨rfl, ⟨_, _, q, hE⟩, k⟩
end Go.Proofs.Ytgpgbingmeehdaa
