
/- The words of a printed expression's text. Math alone. -/
import Derived.Test.YtdekboacjjpjeaaGdP
import Derived.Test.YtdekboacjjpjeaaGlyA
import Derived.Test.YtdekboacjjpjeaaGlyB
namespace Go.Proofs.Ytdekboacjjpjeaa
open Go.RowKit Go.Lib
set_option linter.unusedSimpArgs false
set_option linter.unusedVariables false

/-- A piece of a text: a word, or a blank. -/
abbrev Pc := Option Tk
def pieB (p : Pc) : List UInt8 := match p with | some w => w.2 | none => [32]
def txP (ps : List Pc) : List UInt8 := (ps.map pieB).flatten
def tkP (ps : List Pc) : List Tk := ps.filterMap id
theorem txP_cons (p : Pc) (r : List Pc) : txP (p :: r) = pieB p ++ txP r := rfl
theorem txP_app (a b : List Pc) : txP (a ++ b) = txP a ++ txP b := by simp [txP]
theorem tkP_app (a b : List Pc) : tkP (a ++ b) = tkP a ++ tkP b := by simp [tkP]
/-- The word stands right ahead of these bytes. -/
def Fits (w : Tk) (post : List UInt8) : Prop :=
  w.1 ≠ 0 ∧ runes (w.2 ++ post) = runes w.2 ++ runes post ∧ fst1 (runes w.2 ++ runes post) = (w.1, (runes w.2).length) ∧ ∃ v t, runes w.2 = v :: t ∧ v.1 ≠ 10 ∧ v.1 ≠ 32 ∧ v.1 ≠ 9 ∧ v.1 ≠ 35
/-- All pieces do. -/
def FitsAll : List Pc → List UInt8 → Prop
  | [], _ => True
  | none :: r, post => FitsAll r post
  | some w :: r, post => Fits w (txP r ++ post) ∧ FitsAll r post
theorem fits_app : ∀ (a b : List Pc) (post : List UInt8), FitsAll a (txP b ++ post) → FitsAll b post → FitsAll (a ++ b) post
  | [], b, post, _, h => h
  | none :: a, b, post, h1, h2 => fits_app a b post h1 h2
  | some w :: a, b, post, h1, h2 => by
    refine ⟨?_, fits_app a b post h1.2 h2⟩
    show Fits w (txP (a ++ b) ++ post)
    rw [txP_app, List.append_assoc]
    exact h1.1
theorem words_pcs : ∀ (ps : List Pc) (ln co : Int) (n : Nat), FitsAll ps [] → n + (tkP ps).length ≤ 3000 → er (wrds (runes (txP ps)) ln co n) = ((tkP ps).map (fun w => (w.1, runes w.2)), 0)
  | [], ln, co, n, _, _ => rfl
  | none :: r, ln, co, n, h, hn => by
    rw [txP_cons, show pieB none ++ txP r = 32 :: txP r from rfl, runes_ascii (by decide), wrds_cons, if_neg (by decide), if_pos (.inl (by decide))]
    exact words_pcs r ln (co + 1) n h hn
  | some w :: r, ln, co, n, h, hn => by
    obtain ⟨⟨h0, h1, h2, v, t, h3, h4, h5, h6, h7⟩, hr⟩ := h
    rw [List.append_nil] at h1 h2
    have ht : tkP (some w :: r) = w :: tkP r := rfl
    rw [ht, List.length_cons] at hn
    rw [ht, List.map_cons, txP_cons, show pieB (some w) = w.2 from rfl, h1]
    have e : runes w.2 ++ runes (txP r) = v :: (t ++ runes (txP r)) := by rw [h3]; rfl
    rw [e] at h2 ⊢
    rw [wrds_cons, if_neg h4, if_neg (fun q => q.elim h5 h6), if_neg h7, h2, if_neg h0, if_neg (by omega), ← e, List.take_left, List.drop_left, er_pre]
    have ih := words_pcs r ln (co + ((runes w.2).length : Nat)) (n + 1) hr (by omega)
    have e0 : (wrds (runes (txP r)) ln (co + ((runes w.2).length : Nat)) (n + 1)).2.2 = 0 := by
      have := congrArg Prod.snd ih
      exact this
    rw [if_pos e0, ih]

/-- An expression's pieces. -/
def aroP (c : Nat × List Pc) (least : Nat) : List Pc := if c.1 < least then some (3, [40]) :: (c.2 ++ [some (3, [41])]) else c.2
def pcF (dc : Int → List UInt8) (k n : Int) (s : ByteArray) (p : List (Nat × List Pc)) : Nat × List Pc :=
  (if k = 5 then lv s.data.toList else 6,
   if k = 1 then [some (2, dc n)] else if k = 2 then [some (1, s.data.toList)] else if k = 3 then some (3, [33]) :: aroP (p.getD 0 (0, [])) 6 else if k = 4 then some (3, [45]) :: aroP (p.getD 0 (0, [])) 6
   else aroP (p.getD 0 (0, [])) (if lv s.data.toList = 3 then 4 else lv s.data.toList) ++ none :: some (3, s.data.toList) :: none :: aroP (p.getD 1 (0, [])) (lv s.data.toList + 1))
def pcs (dc : Int → List UInt8) : (d : Nat) → T d → Nat × List Pc := fold (pcF dc)
theorem pcs_tks (dc : Int → List UInt8) : ∀ (d : Nat) (t : T d), (pcs dc d t).1 = (tks dc d t).1 ∧ tkP (pcs dc d t).2 = (tks dc d t).2
  | 0, t => Empty.elim t
  | d + 1, t => by
    obtain ⟨k, n, s, ps, rfl⟩ := T.open t
    have hp : ∀ i, ((ps.map (pcs dc d)).getD i (0, [])).1 = ((ps.map (tks dc d)).getD i (0, [])).1 ∧ tkP ((ps.map (pcs dc d)).getD i (0, [])).2 = ((ps.map (tks dc d)).getD i (0, [])).2 := fun i => by
      rw [List.getD_eq_getElem?_getD, List.getD_eq_getElem?_getD, List.getElem?_map, List.getElem?_map]
      cases ps[i]? with
      | none => exact ⟨rfl, rfl⟩
      | some p => exact pcs_tks dc d p
    have ha : ∀ i m, tkP (aroP ((ps.map (pcs dc d)).getD i (0, [])) m) = aroT ((ps.map (tks dc d)).getD i (0, [])) m := fun i m => by
      obtain ⟨h1, h2⟩ := hp i
      unfold aroP aroT
      rw [h1]
      split
      · show (3, [40]) :: tkP (((ps.map (pcs dc d)).getD i (0, [])).2 ++ [some (3, [41])]) = _
        rw [tkP_app, h2]; rfl
      · exact h2
    refine ⟨rfl, ?_⟩
    show tkP (pcF dc k n s (ps.map (pcs dc d))).2 = (tkF dc k n s (ps.map (tks dc d))).2
    unfold pcF tkF
    simp only
    by_cases k1 : k = 1
    · rw [if_pos k1, if_pos k1]; rfl
    rw [if_neg k1, if_neg k1]
    by_cases k2 : k = 2
    · rw [if_pos k2, if_pos k2]; rfl
    rw [if_neg k2, if_neg k2]
    by_cases k3 : k = 3
    · rw [if_pos k3, if_pos k3]
      show (3, [33]) :: tkP (aroP _ 6) = _
      rw [ha]
    rw [if_neg k3, if_neg k3]
    by_cases k4 : k = 4
    · rw [if_pos k4, if_pos k4]
      show (3, [45]) :: tkP (aroP _ 6) = _
      rw [ha]
    rw [if_neg k4, if_neg k4, tkP_app, ha]
    congr 1
    show (3, s.data.toList) :: tkP (aroP _ _) = _
    rw [ha]

theorem runes_ne : ∀ (n : Nat) (l : List UInt8), l.length ≤ n → ∀ v ∈ runes l, v.2 ≠ []
  | 0, l, h, v, hv => by
    have : l = [] := List.eq_nil_of_length_eq_zero (by omega)
    subst this
    rw [runes_nil] at hv; cases hv
  | n + 1, l, h, v, hv => by
    by_cases hl : l = []
    · subst hl; rw [runes_nil] at hv; cases hv
    · have h1 := nx_pos hl
      have h2 := nx_le hl
      rw [runes_cons hl] at hv
      rcases List.mem_cons.1 hv with rfl | hv
      · intro e
        have := congrArg List.length e
        rw [List.length_take, List.length_nil] at this
        have h3 : 0 < l.length := List.length_pos_iff.2 hl
        omega
      · exact runes_ne n _ (by rw [List.length_drop]; omega) v hv
theorem byt_zero : ∀ (vs : List Ru), (∀ v ∈ vs, v.2 ≠ []) → (byt vs).length = 0 → vs = []
  | [], _, _ => rfl
  | v :: r, h, hl => by
    rw [byt_cons, List.length_append] at hl
    have := h v (by simp)
    exact absurd (List.eq_nil_of_length_eq_zero (by omega)) this
theorem spn_full {b : List UInt8} (h : spb b = b.length) : spn (runes b) = (runes b).length := by
  have h1 := byt_runes b.length b (Nat.le_refl _)
  have h2 : byt ((runes b).take (spn (runes b))) ++ byt ((runes b).drop (spn (runes b))) = b := by rw [← byt_append, List.take_append_drop, h1]
  have h3 := congrArg List.length h2
  rw [List.length_append] at h3
  unfold spb at h
  have h4 := byt_zero _ (fun v hv => runes_ne b.length b (Nat.le_refl _) v (List.mem_of_mem_drop hv)) (by omega : (byt ((runes b).drop (spn (runes b)))).length = 0)
  have h5 := spn_le (runes b)
  have h6 := congrArg List.length h4
  rw [List.length_drop] at h6
  simp at h6
  omega
/-- What stands behind: nothing, a blank or a bracket. -/
def Post (post : List UInt8) : Prop := post = [] ∨ ∃ c r, post = c :: r ∧ (c = 32 ∨ c = 41 ∨ c = 10)
theorem Post.fst {a post : List UInt8} (ha : a ≠ []) (h : Post post) : runes (a ++ post) = runes a ++ runes post ∧ fst1 (runes a ++ runes post) = fst1 (runes a) := by
  rcases h with rfl | ⟨c, r, rfl, hc⟩
  · rw [List.append_nil, runes_nil, List.append_nil]; exact ⟨rfl, rfl⟩
  · have hc8 : c.toNat < 128 := by rcases hc with rfl | rfl | rfl <;> decide
    have hr := runes_stop a.length a (Nat.le_refl _) hc8 r
    have hne : runes a ≠ [] := by rw [runes_cons ha]; simp
    refine ⟨hr, ?_⟩
    rw [runes_ascii hc8]
    refine fst1_stop ?_ _ _ hne
    rcases hc with rfl | rfl | rfl
    · exact ⟨by decide, by decide, by decide, by decide⟩
    · exact ⟨by decide, by decide, by decide, by decide⟩
    · exact ⟨by decide, by decide, by decide, by decide⟩
theorem letter_far {r : Int} (h : letter r = true) : r ≠ 10 ∧ r ≠ 32 ∧ r ≠ 9 ∧ r ≠ 35 ∧ r ≠ 61 := by
  unfold letter at h
  rw [decide_eq_true_eq] at h
  omega
theorem dgt_far {r : Int} (h : dgt r = true) : letter r = false ∧ r ≠ 10 ∧ r ≠ 32 ∧ r ≠ 9 ∧ r ≠ 35 ∧ r ≠ 61 := by
  unfold dgt at h
  rw [decide_eq_true_eq] at h
  refine ⟨?_, by omega⟩
  unfold letter
  rw [decide_eq_false_iff_not]
  omega
theorem fits_name {b post : List UInt8} (hn : nameS b = true) (hp : Post post) : Fits (1, b) post := by
  unfold nameS at hn
  simp only [Bool.and_eq_true, decide_eq_true_eq, beq_iff_eq] at hn
  obtain ⟨⟨h1, h2⟩, h3⟩ := hn
  have hb : b ≠ [] := fun e => by subst e; revert h1; decide
  obtain ⟨p1, p2⟩ := hp.fst hb
  have hs := spn_full (b := b) (by omega)
  have hc := runes_cons hb
  obtain ⟨f1, f2, f3, f4, _⟩ := letter_far h1
  refine ⟨by show (1 : Nat) ≠ 0; decide, p1, ?_, _, _, hc, f1, f2, f3, f4⟩
  rw [p2]
  show fst1 (runes b) = (1, (runes b).length)
  rw [← hs]
  rw [hc] at h3 ⊢
  rw [fst1_cons, if_pos h1, if_pos h3]
theorem fits_shape {c : UInt8} {post : List UInt8} (h8 : c.toNat < 128) (hl : letter c.toNat = false) (hd : dgt c.toNat = false) (ho : one c.toNat = 1) (hf : (c.toNat : Int) ≠ 10 ∧ (c.toNat : Int) ≠ 32 ∧ (c.toNat : Int) ≠ 9 ∧ (c.toNat : Int) ≠ 35) (hp : ∀ v r, runes post = v :: r → pair c.toNat v.1 = false) : Fits (3, [c]) post := by
  have e1 : runes [c] = [((c.toNat : Int), [c])] := by rw [runes_ascii h8, runes_nil]
  refine ⟨by show (3 : Nat) ≠ 0; decide, ?_, ?_, _, _, e1, hf.1, hf.2.1, hf.2.2.1, hf.2.2.2⟩
  · show runes (c :: post) = runes [c] ++ runes post
    rw [runes_ascii h8, e1]; rfl
  · show fst1 (runes [c] ++ runes post) = (3, (runes [c]).length)
    rw [e1]
    show fst1 (((c.toNat : Int), [c]) :: runes post) = (3, 1)
    rw [fst1_cons, if_neg (by rw [hl]; decide), if_neg (by rw [hd]; decide)]
    have hs : sgn (((c.toNat : Int), [c]) :: runes post) = 1 := by
      cases hq : runes post with
      | nil => exact ho
      | cons v r =>
        show (if pair c.toNat v.1 = true then 2 else one c.toNat) = 1
        rw [hp v r hq, if_neg (by decide), ho]
    rw [hs]; rfl
theorem fits_open (post : List UInt8) : Fits (3, [40]) post := fits_shape (by decide) (by decide) (by decide) (by decide) (by decide) (fun v r _ => by unfold pair; rw [decide_eq_false_iff_not]; simp)
theorem fits_shut (post : List UInt8) : Fits (3, [41]) post := fits_shape (by decide) (by decide) (by decide) (by decide) (by decide) (fun v r _ => by unfold pair; rw [decide_eq_false_iff_not]; simp)
theorem fits_neg (post : List UInt8) : Fits (3, [45]) post := fits_shape (by decide) (by decide) (by decide) (by decide) (by decide) (fun v r _ => by unfold pair; rw [decide_eq_false_iff_not]; simp)
theorem fits_not {post : List UInt8} (h : ∀ v r, runes post = v :: r → v.1 ≠ 61) : Fits (3, [33]) post := fits_shape (by decide) (by decide) (by decide) (by decide) (by decide) (fun v r hv => by
  have := h v r hv
  unfold pair; rw [decide_eq_false_iff_not]; simp [this])
theorem fits_num {b post : List UInt8} (hb : numB b = true) (hp : Post post) : Fits (2, b) post ∧ ∀ v r, runes (b ++ post) = v :: r → v.1 ≠ 61 := by
  have hnn := numB_numb (l := b) (runes b) (fun v hv => hv)
  rw [byt_runes b.length b (Nat.le_refl _), hb] at hnn
  have hq := hnn.symm
  have hb0 : b ≠ [] := fun e => by subst e; revert hb; decide
  have hc := runes_cons hb0
  unfold numb at hq
  simp only [Bool.and_eq_true, List.all_eq_true] at hq
  have hall : ∀ v ∈ runes b, dgt v.1 = true := hq.1.2
  have hd : dgt (nx b).1 = true := hall ((nx b).1, b.take (nx b).2) (by rw [hc]; exact List.mem_cons_self)
  obtain ⟨f0, f1, f2, f3, f4, f5⟩ := dgt_far hd
  have hsp : ∀ (vs : List Ru), (∀ v ∈ vs, dgt v.1 = true) → spn vs = vs.length := fun vs => by
    induction vs with
    | nil => intro _; rfl
    | cons v r ih =>
      intro h
      unfold spn
      rw [if_pos (dgt_insd (h v (by simp))), ih (fun x hx => h x (by simp [hx]))]
      rfl
  have hs := hsp _ hall
  obtain ⟨p1, p2⟩ := hp.fst hb0
  refine ⟨⟨by show (2 : Nat) ≠ 0; decide, p1, ?_, _, _, hc, f1, f2, f3, f4⟩, ?_⟩
  · rw [p2]
    show fst1 (runes b) = (2, (runes b).length)
    rw [hc] at hs hnn ⊢
    rw [fst1_cons, if_neg (by rw [f0]; decide), if_pos hd, hs, List.take_length, ← hnn, if_pos rfl]
  · intro v r hv
    rw [p1, hc] at hv
    injection hv with h1 _
    rw [← h1]; exact f5
theorem name_head {b post : List UInt8} (hn : nameS b = true) (hp : Post post) : ∀ v r, runes (b ++ post) = v :: r → v.1 ≠ 61 := by
  unfold nameS at hn
  simp only [Bool.and_eq_true] at hn
  have hb : b ≠ [] := fun e => by subst e; revert hn; decide
  intro v r hv
  rw [(hp.fst hb).1, runes_cons hb] at hv
  injection hv with h1 _
  rw [← h1]; exact (letter_far hn.1.1).2.2.2.2
/-- The nine operators. -/
def opB (s : List UInt8) : Prop := s = [43] ∨ s = [45] ∨ s = [42] ∨ s = [60] ∨ s = [60, 61] ∨ s = [61, 61] ∨ s = [33, 61] ∨ s = [38, 38] ∨ s = [124, 124]
theorem fits_op {s post : List UInt8} (h : opB s) : Fits (3, s) (32 :: post) := by
  have hp : Post (32 :: post) := .inr ⟨32, post, rfl, .inl rfl⟩
  have key : ∀ s : List UInt8, s ≠ [] → fst1 (runes s) = (3, (runes s).length) → (∃ v t, runes s = v :: t ∧ v.1 ≠ 10 ∧ v.1 ≠ 32 ∧ v.1 ≠ 9 ∧ v.1 ≠ 35) → Fits (3, s) (32 :: post) := fun s h1 h2 h3 => by
    obtain ⟨p1, p2⟩ := hp.fst h1
    exact ⟨by show (3 : Nat) ≠ 0; decide, p1, p2.trans h2, h3⟩
  have one1 : ∀ c : UInt8, c.toNat < 128 → runes [c] = [((c.toNat : Int), [c])] := fun c h => by rw [runes_ascii h, runes_nil]
  have two2 : ∀ c e : UInt8, c.toNat < 128 → e.toNat < 128 → runes [c, e] = [((c.toNat : Int), [c]), ((e.toNat : Int), [e])] := fun c e h h' => by rw [runes_ascii h, runes_ascii h', runes_nil]
  rcases h with rfl | rfl | rfl | rfl | rfl | rfl | rfl | rfl | rfl
  · exact key _ (by decide) (by rw [one1 _ (by decide)]; rfl) ⟨_, _, one1 _ (by decide), by decide, by decide, by decide, by decide⟩
  · exact key _ (by decide) (by rw [one1 _ (by decide)]; rfl) ⟨_, _, one1 _ (by decide), by decide, by decide, by decide, by decide⟩
  · exact key _ (by decide) (by rw [one1 _ (by decide)]; rfl) ⟨_, _, one1 _ (by decide), by decide, by decide, by decide, by decide⟩
  · exact key _ (by decide) (by rw [one1 _ (by decide)]; rfl) ⟨_, _, one1 _ (by decide), by decide, by decide, by decide, by decide⟩
  · exact key _ (by decide) (by rw [two2 _ _ (by decide) (by decide)]; rfl) ⟨_, _, two2 _ _ (by decide) (by decide), by decide, by decide, by decide, by decide⟩
  · exact key _ (by decide) (by rw [two2 _ _ (by decide) (by decide)]; rfl) ⟨_, _, two2 _ _ (by decide) (by decide), by decide, by decide, by decide, by decide⟩
  · exact key _ (by decide) (by rw [two2 _ _ (by decide) (by decide)]; rfl) ⟨_, _, two2 _ _ (by decide) (by decide), by decide, by decide, by decide, by decide⟩
  · exact key _ (by decide) (by rw [two2 _ _ (by decide) (by decide)]; rfl) ⟨_, _, two2 _ _ (by decide) (by decide), by decide, by decide, by decide, by decide⟩
  · exact key _ (by decide) (by rw [two2 _ _ (by decide) (by decide)]; rfl) ⟨_, _, two2 _ _ (by decide) (by decide), by decide, by decide, by decide, by decide⟩
/-- Its names are names, its digits numbers, its operators operators. -/
def rtF (dc : Int → List UInt8) (k n : Int) (s : ByteArray) (p : List Prop) : Prop := (k = 1 → numB (dc n) = true) ∧ (k = 2 → nameS s.data.toList = true) ∧ (k = 5 → opB s.data.toList) ∧ (1 ≤ k ∧ k ≤ 5) ∧ ∀ q ∈ p, q
def rtT (dc : Int → List UInt8) : (d : Nat) → T d → Prop := fold (rtF dc)
/-- No text begins with '='. -/
def Hd (ps : List Pc) : Prop := ∀ post, Post post → ∀ v r, runes (txP ps ++ post) = v :: r → v.1 ≠ 61
theorem post_shut (post : List UInt8) : Post (41 :: post) := .inr ⟨41, post, rfl, .inr (.inl rfl)⟩
theorem post_line (post : List UInt8) : Post (10 :: post) := .inr ⟨10, post, rfl, .inr (.inr rfl)⟩
theorem post_blank (post : List UInt8) : Post (32 :: post) := .inr ⟨32, post, rfl, .inl rfl⟩
theorem hd_of {c : UInt8} (h8 : c.toNat < 128) (h : (c.toNat : Int) ≠ 61) (k : Nat) (r : List Pc) : Hd (some (k, [c]) :: r) := fun post _ v t hv => by
  have e : txP (some (k, [c]) :: r) ++ post = c :: (txP r ++ post) := rfl
  rw [e, runes_ascii h8] at hv
  injection hv with h1 _
  rw [← h1]; exact h
theorem fits_aro {dc : Int → List UInt8} {d : Nat} {p : T d} (h : (∀ post, Post post → FitsAll (pcs dc d p).2 post) ∧ Hd (pcs dc d p).2) (m : Nat) : (∀ post, Post post → FitsAll (aroP (pcs dc d p) m) post) ∧ Hd (aroP (pcs dc d p) m) := by
  unfold aroP
  split
  · refine ⟨fun post hp => ⟨fits_open _, ?_⟩, hd_of (by decide) (by decide) _ _⟩
    exact fits_app _ _ _ (h.1 _ (post_shut post)) ⟨fits_shut _, trivial⟩
  · exact h
theorem fits_tree (dc : Int → List UInt8) : ∀ (d : Nat) (t : T d), Cl d t → rtT dc d t → (∀ post, Post post → FitsAll (pcs dc d t).2 post) ∧ Hd (pcs dc d t).2
  | 0, t, _, _ => Empty.elim t
  | d + 1, t, hc, hr => by
    rcases hc.cases with ⟨n, rfl⟩ | ⟨s, rfl⟩ | ⟨k, p, hk, rfl, hp⟩ | ⟨s, p, q, rfl, hp, hq⟩ | rfl
    · have hn : numB (dc n) = true := hr.1 rfl
      have e : (pcs dc (d + 1) (mkT 1 n ⟨#[]⟩ [] : T (d + 1))).2 = [some (2, dc n)] := rfl
      rw [e]
      have ht : txP [some ((2, dc n) : Tk)] = dc n := by simp [txP, pieB]
      refine ⟨fun post hp => ⟨(fits_num hn hp).1, trivial⟩, fun post hp v r hv => ?_⟩
      rw [ht] at hv
      exact (fits_num hn hp).2 v r hv
    · have hn : nameS s.data.toList = true := hr.2.1 rfl
      have e : (pcs dc (d + 1) (mkT 2 0 s [] : T (d + 1))).2 = [some (1, s.data.toList)] := rfl
      rw [e]
      have ht : txP [some ((1, s.data.toList) : Tk)] = s.data.toList := by simp [txP, pieB]
      refine ⟨fun post hp => ⟨fits_name hn hp, trivial⟩, fun post hp v r hv => ?_⟩
      rw [ht] at hv
      exact name_head hn hp v r hv
    · have hrp : rtT dc d p := by
        have h2 : ∀ z ∈ [fold (rtF dc) d p], z := hr.2.2.2.2
        exact h2 (fold (rtF dc) d p) List.mem_cons_self
      obtain ⟨a1, a2⟩ := fits_aro (fits_tree dc d p hp hrp) 6
      rcases hk with rfl | rfl
      · have e : (pcs dc (d + 1) (mkT 3 0 ⟨#[]⟩ [p] : T (d + 1))).2 = some (3, [33]) :: aroP (pcs dc d p) 6 := rfl
        rw [e]
        exact ⟨fun post hp => ⟨fits_not (a2 post hp), a1 post hp⟩, hd_of (by decide) (by decide) _ _⟩
      · have e : (pcs dc (d + 1) (mkT 4 0 ⟨#[]⟩ [p] : T (d + 1))).2 = some (3, [45]) :: aroP (pcs dc d p) 6 := rfl
        rw [e]
        exact ⟨fun post hp => ⟨fits_neg _, a1 post hp⟩, hd_of (by decide) (by decide) _ _⟩
    · have h2 : ∀ z ∈ [fold (rtF dc) d p, fold (rtF dc) d q], z := hr.2.2.2.2
      have ho : opB s.data.toList := hr.2.2.1 rfl
      obtain ⟨m, hm⟩ : ∃ m, (if lv s.data.toList = 3 then 4 else lv s.data.toList) = m := ⟨_, rfl⟩
      have e : (pcs dc (d + 1) (mkT 5 0 s [p, q] : T (d + 1))).2 = aroP (pcs dc d p) (if lv s.data.toList = 3 then 4 else lv s.data.toList) ++ none :: some (3, s.data.toList) :: none :: aroP (pcs dc d q) (lv s.data.toList + 1) := rfl
      rw [e, hm]
      obtain ⟨a1, a2⟩ := fits_aro (fits_tree dc d p hp (h2 (fold (rtF dc) d p) List.mem_cons_self)) m
      obtain ⟨b1, b2⟩ := fits_aro (fits_tree dc d q hq (h2 (fold (rtF dc) d q) (List.mem_cons_of_mem _ List.mem_cons_self))) (lv s.data.toList + 1)
      refine ⟨fun post hp => ?_, fun post hp v r hv => ?_⟩
      · exact fits_app _ _ _ (a1 _ (post_blank _)) ⟨fits_op ho, b1 post hp⟩
      · rw [txP_app, List.append_assoc] at hv
        exact a2 _ (post_blank _) v r hv
    · have : (1 : Int) ≤ 0 ∧ (0 : Int) ≤ 5 := hr.2.2.2.1
      omega
/-- A printed text has the expression's words. -/
theorem printed_words {dc : Int → List UInt8} {d : Nat} {t : T d} (hc : Cl d t) (hr : rtT dc d t) (hn : (tks dc d t).2.length ≤ 3000) (hs : (txP (pcs dc d t).2).length ≤ 12000) :
    er (wordsS (txP (pcs dc d t).2)) = ((tks dc d t).2.map (fun w => (w.1, runes w.2)), 0) := by
  obtain ⟨h1, h2⟩ := pcs_tks dc d t
  unfold wordsS
  rw [if_neg (by omega), words_pcs _ 1 1 0 ((fits_tree dc d t hc hr).1 [] (.inl rfl)) (by rw [h2]; omega), h2]
end Go.Proofs.Ytdekboacjjpjeaa
