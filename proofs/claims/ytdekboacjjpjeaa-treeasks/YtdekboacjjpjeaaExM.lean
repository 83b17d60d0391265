
/- Expressions as trees: what the document says of them. Math alone. -/
import Derived.WalkKit
namespace Go.Proofs.Ytdekboacjjpjeaa
set_option linter.unusedSimpArgs false
set_option linter.unusedVariables false

/-- Trees at most so many parts deep: a kind, a number, a text, parts. -/
def T : Nat → Type
  | 0 => Empty
  | d + 1 => Int × Int × ByteArray × List (T d)
abbrev mkT {d : Nat} (k n : Int) (s : ByteArray) (ps : List (T d)) : T (d + 1) := ((k, n, s, ps) : Int × Int × ByteArray × List (T d))
theorem T.open {d : Nat} (t : T (d + 1)) : ∃ k n s ps, t = mkT k n s ps := by
  have t' : Int × Int × ByteArray × List (T d) := t
  exact ⟨(show Int × Int × ByteArray × List (T d) from t).1, (show Int × Int × ByteArray × List (T d) from t).2.1, (show Int × Int × ByteArray × List (T d) from t).2.2.1, (show Int × Int × ByteArray × List (T d) from t).2.2.2, rfl⟩
/-- A function of trees, by what it makes of a node and of its parts. -/
def fold {α : Type} (f : Int → Int → ByteArray → List α → α) : (d : Nat) → T d → α
  | 0, t => Empty.elim t
  | d + 1, t => f (show Int × Int × ByteArray × List (T d) from t).1 (show Int × Int × ByteArray × List (T d) from t).2.1 (show Int × Int × ByteArray × List (T d) from t).2.2.1 (((show Int × Int × ByteArray × List (T d) from t).2.2.2).map (fold f d))
theorem fold_mk {α : Type} (f : Int → Int → ByteArray → List α → α) {d : Nat} (k n : Int) (s : ByteArray) (ps : List (T d)) : fold f (d + 1) (mkT k n s ps) = f k n s (ps.map (fold f d)) := rfl

/-- How many nodes there are in all. -/
def cnt : (d : Nat) → T d → Nat := fold (fun _ _ _ l => l.sum + 1)
theorem cnt_mk {d : Nat} (k n : Int) (s : ByteArray) (ps : List (T d)) : cnt (d + 1) (mkT k n s ps) = (ps.map (cnt d)).sum + 1 := rfl
/-- No text is longer than m. -/
def shrt (m : Nat) : (d : Nat) → T d → Bool := fold (fun _ _ s l => decide (s.size ≤ m) && l.all id)
theorem shrt_mk (m : Nat) {d : Nat} (k n : Int) (s : ByteArray) (ps : List (T d)) : shrt m (d + 1) (mkT k n s ps) = (decide (s.size ≤ m) && ps.all (shrt m d)) := by
  show (decide (s.size ≤ m) && (ps.map (shrt m d)).all id) = _
  rw [List.all_map]; rfl

/-- One part behind the other. -/
def thru {α : Type} (g : α → Int → Int) : List α → Int → Int
  | [], x => x
  | p :: r, x => if g p x < 0 then -1 else thru g r (g p x)
/-- What small answers. -/
def sml : (d : Nat) → T d → Nat → Int → Int := fold (fun _ _ s l dep left => if 60 < dep ∨ left - 1 < 0 ∨ 1000 < s.size then -1 else thru (fun g x => g (dep + 1) x) l (left - 1))
theorem sml_mk {d : Nat} (k n : Int) (s : ByteArray) (ps : List (T d)) (dep : Nat) (left : Int) :
    sml (d + 1) (mkT k n s ps) dep left = if 60 < dep ∨ left - 1 < 0 ∨ 1000 < s.size then -1 else thru (fun p x => sml d p (dep + 1) x) ps (left - 1) := by
  show (if 60 < dep ∨ left - 1 < 0 ∨ 1000 < s.size then -1 else thru (fun g x => g (dep + 1) x) (ps.map (sml d)) (left - 1)) = _
  split
  · rfl
  · generalize left - 1 = x
    induction ps generalizing x with
    | nil => rfl
    | cons p r ih =>
      simp only [List.map_cons, thru]
      split
      · rfl
      · exact ih _
theorem thru_ok {d : Nat} {dep : Nat} (H : ∀ (p : T d) (x : Int), 0 ≤ sml d p dep x → sml d p dep x = x - cnt d p ∧ shrt 1000 d p = true) :
    ∀ (ps : List (T d)) (x : Int), 0 ≤ thru (fun p x => sml d p dep x) ps x → thru (fun p x => sml d p dep x) ps x = x - ((ps.map (cnt d)).sum : Nat) ∧ ps.all (shrt 1000 d) = true
  | [], x, _ => by simp [thru]
  | p :: r, x, h => by
    unfold thru at h ⊢
    by_cases hn : sml d p dep x < 0
    · rw [if_pos hn] at h; omega
    · rw [if_neg hn] at h ⊢
      obtain ⟨e1, e2⟩ := H p x (by omega)
      obtain ⟨f1, f2⟩ := thru_ok H r _ h
      rw [f1, e1]
      refine ⟨by simp only [List.map_cons, List.sum_cons]; omega, by simp [e2, f2]⟩
theorem sml_ok : ∀ (d : Nat) (t : T d) (dep : Nat) (left : Int), 0 ≤ sml d t dep left → sml d t dep left = left - cnt d t ∧ shrt 1000 d t = true
  | 0, t, _, _, _ => Empty.elim t
  | d + 1, t, dep, left, h => by
    obtain ⟨k, n, s, ps, rfl⟩ := T.open t
    rw [sml_mk] at h ⊢
    split at h
    · omega
    · rename_i hc
      rw [if_neg hc]
      obtain ⟨e1, e2⟩ := thru_ok (fun p x hx => sml_ok d p (dep + 1) x hx) ps (left - 1) h
      rw [e1, shrt_mk, e2, cnt_mk]
      refine ⟨by omega, by simp; omega⟩
theorem cnt_pos (d : Nat) (t : T d) : 1 ≤ cnt d t := by
  match d, t with
  | 0, t => exact Empty.elim t
  | d + 1, t =>
    obtain ⟨k, n, s, ps, rfl⟩ := T.open t
    rw [cnt_mk]; omega
theorem cnt_part {d : Nat} {ps : List (T d)} {p : T d} (h : p ∈ ps) : cnt d p ≤ (ps.map (cnt d)).sum := by
  induction ps with
  | nil => cases h
  | cons x r ih =>
    simp only [List.map_cons, List.sum_cons]
    rcases List.mem_cons.1 h with rfl | h
    · omega
    · have := ih h; omega
theorem cnt_len {d : Nat} (ps : List (T d)) : ps.length ≤ (ps.map (cnt d)).sum := by
  induction ps with
  | nil => simp
  | cons x r ih =>
    have := cnt_pos d x
    simp only [List.map_cons, List.sum_cons, List.length_cons]
    omega

/-- A node that is none. -/
def none0 {d : Nat} : T (d + 1) := mkT 0 0 ⟨#[]⟩ []
/-- A node as an expression has it. -/
def cln : (d : Nat) → T d → T (d + 1)
  | 0, t => Empty.elim t
  | d + 1, t =>
    let x := (show Int × Int × ByteArray × List (T d) from t)
    let part := fun i => (match x.2.2.2[i]? with | some p => cln d p | none => none0)
    if x.1 = 1 then mkT 1 x.2.1 ⟨#[]⟩ [] else if x.1 = 2 then mkT 2 0 x.2.2.1 [] else if x.1 = 3 then mkT 3 0 ⟨#[]⟩ [part 0] else if x.1 = 4 then mkT 4 0 ⟨#[]⟩ [part 0]
    else if x.1 = 5 then mkT 5 0 x.2.2.1 [part 0, part 1] else none0
def prt {d : Nat} (ps : List (T d)) (i : Nat) : T (d + 1) := match ps[i]? with | some p => cln d p | none => none0
theorem cln_mk {d : Nat} (k n : Int) (s : ByteArray) (ps : List (T d)) : cln (d + 1) (mkT k n s ps) =
    if k = 1 then mkT 1 n ⟨#[]⟩ [] else if k = 2 then mkT 2 0 s [] else if k = 3 then mkT 3 0 ⟨#[]⟩ [prt ps 0] else if k = 4 then mkT 4 0 ⟨#[]⟩ [prt ps 0]
    else if k = 5 then mkT 5 0 s [prt ps 0, prt ps 1] else none0 := rfl
/-- Clean: as many parts as its kind has, and nothing else. -/
def Cl : (d : Nat) → T d → Prop
  | 0, t => Empty.elim t
  | d + 1, t =>
    let x := (show Int × Int × ByteArray × List (T d) from t)
    (x.1 = 1 ∧ x.2.2.1 = ⟨#[]⟩ ∧ x.2.2.2 = []) ∨ (x.1 = 2 ∧ x.2.1 = 0 ∧ x.2.2.2 = []) ∨ ((x.1 = 3 ∨ x.1 = 4) ∧ x.2.1 = 0 ∧ x.2.2.1 = ⟨#[]⟩ ∧ ∃ p, x.2.2.2 = [p] ∧ Cl d p) ∨
    (x.1 = 5 ∧ x.2.1 = 0 ∧ ∃ p q, x.2.2.2 = [p, q] ∧ Cl d p ∧ Cl d q) ∨ (x.1 = 0 ∧ x.2.1 = 0 ∧ x.2.2.1 = ⟨#[]⟩ ∧ x.2.2.2 = [])
theorem Cl.cases {d : Nat} {t : T (d + 1)} (h : Cl (d + 1) t) : (∃ n, t = mkT 1 n ⟨#[]⟩ []) ∨ (∃ s, t = mkT 2 0 s []) ∨ (∃ k p, (k = 3 ∨ k = 4) ∧ t = mkT k 0 ⟨#[]⟩ [p] ∧ Cl d p) ∨
    (∃ s p q, t = mkT 5 0 s [p, q] ∧ Cl d p ∧ Cl d q) ∨ t = none0 := by
  obtain ⟨k, n, s, ps, rfl⟩ := T.open t
  rcases h with ⟨h1, h2, h3⟩ | ⟨h1, h2, h3⟩ | ⟨h1, h2, h3, p, h4, h5⟩ | ⟨h1, h2, p, q, h3, h4, h5⟩ | ⟨h1, h2, h3, h4⟩
  · left; exact ⟨n, by simp only at h1 h2 h3; subst h1 h2 h3; rfl⟩
  · right; left; exact ⟨s, by simp only at h1 h2 h3; subst h1 h2 h3; rfl⟩
  · right; right; left; exact ⟨k, p, h1, by simp only at h2 h3 h4; subst h2 h3 h4; rfl, h5⟩
  · right; right; right; left; exact ⟨s, p, q, by simp only at h1 h2 h3; subst h1 h2 h3; rfl, h4, h5⟩
  · right; right; right; right; simp only at h1 h2 h3 h4; subst h1 h2 h3 h4; rfl
theorem cl_none {d : Nat} : Cl (d + 1) (none0 : T (d + 1)) := .inr (.inr (.inr (.inr ⟨rfl, rfl, rfl, rfl⟩)))
theorem cl_cln : ∀ (d : Nat) (t : T d), Cl (d + 1) (cln d t)
  | 0, t => Empty.elim t
  | d + 1, t => by
    obtain ⟨k, n, s, ps, rfl⟩ := T.open t
    have hp : ∀ i, Cl (d + 1) (prt ps i) := fun i => by
      unfold prt
      split
      · exact cl_cln d _
      · exact cl_none
    rw [cln_mk]
    split
    · exact .inl ⟨rfl, rfl, rfl⟩
    split
    · exact .inr (.inl ⟨rfl, rfl, rfl⟩)
    split
    · exact .inr (.inr (.inl ⟨.inl rfl, rfl, rfl, _, rfl, hp 0⟩))
    split
    · exact .inr (.inr (.inl ⟨.inr rfl, rfl, rfl, _, rfl, hp 0⟩))
    split
    · exact .inr (.inr (.inr (.inl ⟨rfl, rfl, _, _, rfl, hp 0, hp 1⟩)))
    · exact cl_none
theorem size0 : (⟨#[]⟩ : ByteArray).size = 0 := rfl
theorem cnt_none {d : Nat} : cnt (d + 1) (none0 : T (d + 1)) = 1 := rfl
theorem cnt_cln : ∀ (d : Nat) (t : T d), cnt (d + 1) (cln d t) ≤ 3 * cnt d t
  | 0, t => Empty.elim t
  | d + 1, t => by
    obtain ⟨k, n, s, ps, rfl⟩ := T.open t
    have hp : ∀ i, cnt (d + 1) (prt ps i) ≤ 3 * ((ps[i]?).map (cnt d)).getD 0 + 1 := fun i => by
      unfold prt
      split
      · rename_i p h; rw [h]; have := cnt_cln d p; simp; omega
      · rename_i h; rw [h, cnt_none]; simp
    have hs : ((ps[0]?).map (cnt d)).getD 0 + ((ps[1]?).map (cnt d)).getD 0 ≤ (ps.map (cnt d)).sum := by
      match ps with
      | [] => simp
      | [a] => simp
      | a :: b :: r => simp only [List.getElem?_cons_zero, List.getElem?_cons_succ, Option.map_some, Option.getD_some, List.map_cons, List.sum_cons]; omega
    have h0 := hp 0
    have h1 := hp 1
    rw [cln_mk, cnt_mk]
    split
    · rw [cnt_mk]; simp only [List.map_nil, List.sum_nil]; omega
    split
    · rw [cnt_mk]; simp only [List.map_nil, List.sum_nil]; omega
    split
    · rw [cnt_mk]; simp only [List.map_cons, List.map_nil, List.sum_cons, List.sum_nil]; omega
    split
    · rw [cnt_mk]; simp only [List.map_cons, List.map_nil, List.sum_cons, List.sum_nil]; omega
    split
    · rw [cnt_mk]; simp only [List.map_cons, List.map_nil, List.sum_cons, List.sum_nil]; omega
    · rw [cnt_none]; omega
theorem shrt_cln : ∀ (m d : Nat) (t : T d), shrt m d t = true → shrt m (d + 1) (cln d t) = true
  | m, 0, t, _ => Empty.elim t
  | m, d + 1, t, h => by
    obtain ⟨k, n, s, ps, rfl⟩ := T.open t
    rw [shrt_mk] at h
    simp only [Bool.and_eq_true, decide_eq_true_eq, List.all_eq_true] at h
    have hn : shrt m (d + 1) (none0 : T (d + 1)) = true := by unfold none0; rw [shrt_mk]; simp [size0]
    have hp : ∀ i, shrt m (d + 1) (prt ps i) = true := fun i => by
      unfold prt
      split
      · rename_i p hp; exact shrt_cln m d p (h.2 p (List.mem_of_getElem? hp))
      · exact hn
    rw [cln_mk]
    split
    · rw [shrt_mk]; simp [size0]
    split
    · rw [shrt_mk]; simp [h.1]
    split
    · rw [shrt_mk]; simp [size0, hp 0]
    split
    · rw [shrt_mk]; simp [size0, hp 0]
    split
    · rw [shrt_mk]; simp [hp 0, hp 1, h.1]
    · exact hn
end Go.Proofs.Ytdekboacjjpjeaa
