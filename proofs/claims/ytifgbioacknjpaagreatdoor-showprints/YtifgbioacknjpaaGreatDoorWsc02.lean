import Derived.Test.YtifgbioacknjpaaGreatDoorWsc01
import Derived.Test.YtifgbioacknjpaaGreatDoorRows
import Derived.Lib.ItoaNum
import Derived.Deep.LoopGhost

/- What the document says of expressions: how many, how deep, sound, formed. -/
namespace Go.Proofs.YtifgbioacknjpaaGreatDoor
open Go.RowKit Go.Lib
set_option linter.unusedSimpArgs false
set_option linter.unusedVariables false

def ndC : (d : Nat) → T d → Nat := fold (fun _ _ _ l => min (l.sum + 1) 41)
theorem ndC_mk {d : Nat} (k n : Int) (s : ByteArray) (ps : List (T d)) : ndC (d + 1) (mkT k n s ps) = min ((ps.map (ndC d)).sum + 1) 41 := rfl
def dpC : (d : Nat) → T d → Nat := fold (fun _ _ _ l => l.foldl max 0 + 1)
theorem dpC_mk {d : Nat} (k n : Int) (s : ByteArray) (ps : List (T d)) : dpC (d + 1) (mkT k n s ps) = (ps.map (dpC d)).foldl max 0 + 1 := rfl
def ops9 : List (List UInt8) := [[43], [45], [42], [60], [60, 61], [61, 61], [33, 61], [38, 38], [124, 124]]
def opr (s : ByteArray) : Bool := ops9.any (fun x => bl s == x)
def sdC : (d : Nat) → T d → Bool := fold (fun k n s l => if k = 1 then decide (0 ≤ n) && decide (n ≤ 1000000000) else if k = 2 then nameS (bl s) else if k = 3 ∨ k = 4 then l.all id else if k = 5 then opr s && l.all id else false)
theorem sdC_mk {d : Nat} (k n : Int) (s : ByteArray) (ps : List (T d)) : sdC (d + 1) (mkT k n s ps) =
    if k = 1 then decide (0 ≤ n) && decide (n ≤ 1000000000) else if k = 2 then nameS (bl s) else if k = 3 ∨ k = 4 then ps.all (sdC d) else if k = 5 then opr s && ps.all (sdC d) else false := by
  have e : (ps.map (sdC d)).all id = ps.all (sdC d) := by rw [List.all_map]; rfl
  rw [← e]
  rfl
def fmC (d : Nat) (t : T d) : Bool := decide (ndC d t ≤ 40) && decide (dpC d t ≤ 12) && sdC d t
theorem ndC_le (d : Nat) (t : T d) : ndC d t ≤ 41 := by
  match d, t with
  | 0, t => exact Empty.elim t
  | d + 1, t =>
    obtain ⟨k, n, s, ps, rfl⟩ := T.open t
    rw [ndC_mk]; omega
theorem sum_take_succ {α : Type} (f : α → Nat) (l : List α) (j : Nat) (h : j < l.length) : ((l.take (j + 1)).map f).sum = ((l.take j).map f).sum + f l[j] := by
  rw [List.take_succ_eq_append_getElem h, List.map_append, List.sum_append]; simp
theorem max_take_succ {α : Type} (f : α → Nat) (l : List α) (j : Nat) (h : j < l.length) : ((l.take (j + 1)).map f).foldl max 0 = max (((l.take j).map f).foldl max 0) (f l[j]) := by
  rw [List.take_succ_eq_append_getElem h, List.map_append, List.foldl_append]; simp
theorem foldl_max_le {m : Nat} : ∀ (l : List Nat) (a : Nat), a ≤ m → (∀ x ∈ l, x ≤ m) → l.foldl max a ≤ m
  | [], a, ha, _ => ha
  | x :: r, a, ha, h => by
    have h1 := h x (by simp)
    exact foldl_max_le r (max a x) (by omega) (fun y hy => h y (by simp [hy]))
theorem dpC_le : ∀ (d : Nat) (t : T d), dpC d t ≤ cnt d t
  | 0, t => Empty.elim t
  | d + 1, t => by
    obtain ⟨k, n, s, ps, rfl⟩ := T.open t
    rw [dpC_mk, cnt_mk]
    have := foldl_max_le (m := (ps.map (cnt d)).sum) (ps.map (dpC d)) 0 (Nat.zero_le _) (fun x hx => by
      obtain ⟨p, hp, rfl⟩ := List.mem_map.1 hx
      exact Nat.le_trans (dpC_le d p) (cnt_part hp))
    omega
theorem all_take_succ {α : Type} (f : α → Bool) (l : List α) (j : Nat) (h : j < l.length) (h1 : (l.take j).all f = true) (h2 : f l[j] = true) : (l.take (j + 1)).all f = true := by
  rw [List.take_succ_eq_append_getElem h, List.all_append, h1]; simp [h2]
theorem all_not {α : Type} (f : α → Bool) (l : List α) (j : Nat) (h : j < l.length) (h2 : f l[j] = false) : l.all f = false := by
  rw [List.all_eq_false]; exact ⟨l[j], List.getElem_mem h, by rw [h2]; decide⟩

def lss (a b : ByteArray) : Bool := Op.bytesLess a.toList b.toList
def lead (ls : List ByteArray) (s : ByteArray) : Nat := (ls.takeWhile (fun x => lss x s)).length
/-- A name into rising ones, once. -/
def adS (ls : List ByteArray) (s : ByteArray) : List ByteArray := if ls[lead ls s]? = some s then ls else ls.take (lead ls s) ++ [s] ++ ls.drop (lead ls s)
def cS (ls : List ByteArray) : List Value := ls.map .string
/-- The slice v, made by calls of ours, holds the texts ls. -/
def RdS (w : World) (v : Value) (ls : List ByteArray) : Prop := w.ownsRow 0 9 1 v ls.length (cS ls)
theorem rdS_nil (w : World) : RdS w (.slice none 0 0) [] := World.ownsRow_nil w 0 9 1
theorem RdS.below {w w' : World} {v : Value} {ls : List ByteArray} {B : Nat} (h : RdS w v ls) (hb : Below B w w') (hB : w.heap.size ≤ B) : RdS w' v ls := by
  refine ⟨h.1, ?_⟩
  rcases h.2 with hn | ⟨g, cap, cur, rfl, hbg, hg, rest⟩
  · exact .inl hn
  · exact .inr ⟨g, cap, cur, rfl, hbg, by rw [hb.block g (by have := (Array.getElem?_eq_some_iff.1 hg).1; omega)]; exact hg, rest⟩
theorem RdS.form {w : World} {v : Value} {ls : List ByteArray} (h : RdS w v ls) : (v = .slice none 0 0 ∧ ls = []) ∨ ∃ g cap, v = .slice (some ⟨g, 0, none⟩) ls.length cap ∧ ls.length ≤ cap ∧ cap ≤ maxLen ∧ ∀ (i : Nat) (hi : i < ls.length), w.cell? ⟨g, i, none⟩ = some (.string ls[i]) := by
  rcases h.2 with ⟨h1, h2⟩ | ⟨g, cap, cur, rfl, hb, hg, hnc, hcm, _⟩
  · exact .inl ⟨h1, List.eq_nil_of_length_eq_zero h2⟩
  · refine .inr ⟨g, cap, rfl, hnc, hcm, fun i hi => ?_⟩
    have h1 := World.ownsRow.cells h (g := g) rfl i (.string ls[i]) (by simp [cS, hi])
    have hp : (⟨g, 0, none⟩ : Addr).add i = ⟨g, i, none⟩ := by unfold Addr.add; split <;> simp_all
    rw [hp] at h1
    exact h1
theorem src_texts {P : Program} {t : TypeId} (ht : P.underlying t = some (.slice 9)) {w : World} {a : Addr} {n c : Nat} {ls : List ByteArray} (hl : ls.length = n) (h : ∀ (i : Nat) (hi : i < ls.length), w.cell? (a.add i) = some (.string ls[i])) : Src P 1 t (.slice (some a) n c) n (cS ls) w := by
  refine Src.ofSlice w ht a n c (cS ls) (by simp [cS, hl]) (fun j u hu => ?_) (fun u hu => ?_)
  · have hj : j < ls.length := by
      rcases Nat.lt_or_ge j ls.length with h | h
      · exact h
      · rw [List.getElem?_eq_none (by simp [cS]; omega)] at hu; cases hu
    have : u = .string ls[j] := by simpa [cS, hj] using hu.symm
    rw [this]; exact h j hj
  · obtain ⟨x, _, rfl⟩ := List.mem_map.1 hu
    rfl
theorem Tryz.infoStr : (Tryz.prog.info? 9).map (fun i => (i.zero, i.size, i.bytes)) = some (some (.string ⟨#[]⟩), 1, 16) := by kernel_rfl
theorem cS_append (a b : List ByteArray) : cS (a ++ b) = cS a ++ cS b := by simp [cS]
theorem ownsRow_zero {w : World} {base e size : Nat} {v : Value} {n : Nat} {xs : List Value} (h : w.ownsRow base e size v n xs) : w.ownsRow 0 e size v n xs :=
  ⟨h.1, h.2.elim Or.inl (fun ⟨g, cap, cur, hv, hg, r⟩ => Or.inr ⟨g, cap, cur, hv, Nat.zero_le _, r⟩)⟩
end Go.Proofs.YtifgbioacknjpaaGreatDoor

/- Trees made deeper. Math alone. -/
namespace Go.Proofs.YtifgbioacknjpaaGreatDoor
set_option linter.unusedSimpArgs false
set_option linter.unusedVariables false

/-- The same tree, at one depth more. -/
def lift : (d : Nat) → T d → T (d + 1)
  | 0, t => Empty.elim t
  | d + 1, t => mkT (show Int × Int × ByteArray × List (T d) from t).1 (show Int × Int × ByteArray × List (T d) from t).2.1 (show Int × Int × ByteArray × List (T d) from t).2.2.1 ((show Int × Int × ByteArray × List (T d) from t).2.2.2.map (lift d))
theorem lift_mk {d : Nat} (k n : Int) (s : ByteArray) (ps : List (T d)) : lift (d + 1) (mkT k n s ps) = mkT k n s (ps.map (lift d)) := rfl
theorem fold_lift {α : Type} (f : Int → Int → ByteArray → List α → α) : ∀ (d : Nat) (t : T d), fold f (d + 1) (lift d t) = fold f d t
  | 0, t => Empty.elim t
  | d + 1, t => by
    obtain ⟨k, n, s, ps, rfl⟩ := T.open t
    rw [lift_mk, fold_mk, fold_mk, List.map_map]
    congr 1
    exact List.map_congr_left (fun p _ => fold_lift f d p)
theorem cl_lift : ∀ (d : Nat) (t : T d), Cl d t → Cl (d + 1) (lift d t)
  | 0, t, _ => Empty.elim t
  | d + 1, t, h => by
    rcases h.cases with ⟨n, rfl⟩ | ⟨s, rfl⟩ | ⟨k, p, hk, rfl, hp⟩ | ⟨s, p, q, rfl, hp, hq⟩ | rfl
    · exact .inl ⟨rfl, rfl, rfl⟩
    · exact .inr (.inl ⟨rfl, rfl, rfl⟩)
    · exact .inr (.inr (.inl ⟨hk, rfl, rfl, _, rfl, cl_lift d p hp⟩))
    · exact .inr (.inr (.inr (.inl ⟨rfl, rfl, _, _, rfl, cl_lift d p hp, cl_lift d q hq⟩)))
    · exact cl_none
/-- As deep as is wanted. -/
def As (d : Nat) (t : T d) (D : Nat) (t' : T D) : Prop := (∀ (α : Type) (f : Int → Int → ByteArray → List α → α), fold f D t' = fold f d t) ∧ (Cl d t → Cl D t')
theorem as_add (d : Nat) (t : T d) : ∀ k, ∃ t' : T (d + k), As d t (d + k) t'
  | 0 => ⟨t, fun _ _ => rfl, id⟩
  | k + 1 => by
    obtain ⟨t', h1, h2⟩ := as_add d t k
    exact ⟨lift (d + k) t', fun α f => (fold_lift f (d + k) t').trans (h1 α f), fun h => cl_lift _ _ (h2 h)⟩
theorem as_at (d : Nat) (t : T d) {D : Nat} (h : d ≤ D) : ∃ t' : T D, As d t D t' := by
  obtain ⟨k, rfl⟩ := Nat.le.dest h
  exact as_add d t k
theorem both (d e : Nat) (t : T d) (u : T e) : ∃ (D : Nat) (t' u' : T D), As d t D t' ∧ As e u D u' := by
  obtain ⟨t', ht⟩ := as_at d t (Nat.le_max_left d e)
  obtain ⟨u', hu⟩ := as_at e u (Nat.le_max_right d e)
  exact ⟨_, t', u', ht, hu⟩
end Go.Proofs.YtifgbioacknjpaaGreatDoor

/- When two trees are the same. Math alone. -/
namespace Go.Proofs.YtifgbioacknjpaaGreatDoor
open Go.RowKit Go.Lib
set_option linter.unusedSimpArgs false
set_option linter.unusedVariables false


/-- An expression, with its depth. -/
abbrev Sx := (d : Nat) × T d
/-- The same tree, k deeper. -/
def addl (d : Nat) (t : T d) : (k : Nat) → T (d + k)
  | 0 => t
  | k + 1 => lift (d + k) (addl d t k)
def turn {a b : Nat} (h : a = b) (t : T a) : T b := h ▸ t
/-- A function of expressions, by what it makes of a node and of its parts. -/
def foldS {α : Type} (f : Int → Int → ByteArray → List α → α) (x : Sx) : α := fold f x.1 x.2
def ClX (x : Sx) : Prop := Cl x.1 x.2
def mk0 (k n : Int) (s : ByteArray) : Sx := ⟨1, mkT k n s []⟩
def mk1 (k : Int) (x : Sx) : Sx := ⟨x.1 + 1, mkT k 0 ⟨#[]⟩ [x.2]⟩
def mk2 (s : ByteArray) (x y : Sx) : Sx := ⟨x.1 + y.1 + 1, mkT 5 0 s [addl x.1 x.2 y.1, turn (Nat.add_comm y.1 x.1) (addl y.1 y.2 x.1)]⟩
/-- The nodes, each ahead of its parts, with their number. -/
def enc : (d : Nat) → T d → List (Int × Int × ByteArray × Nat) := fold (fun k n s l => (k, n, s, l.length) :: l.flatten)

/-- A word: its kind, and its bytes. -/
abbrev Tk := Nat × List UInt8
/-- How strongly an operator binds; 0: it is none. -/
def lv (s : List UInt8) : Nat := if s = [124, 124] then 1 else if s = [38, 38] then 2 else if s = [60] ∨ s = [60, 61] ∨ s = [61, 61] ∨ s = [33, 61] then 3 else if s = [43] ∨ s = [45] then 4 else if s = [42] then 5 else 0
theorem lv_le (s : List UInt8) : lv s ≤ 5 := by
  unfold lv
  repeat' split
  all_goals omega
def noX : Sx := mk0 0 0 ⟨#[]⟩
/-- What reading tells: the expression, the place, and the word with which it can't go on (-1: none). -/
abbrev Rd3 := Sx × Nat × Int
def failR (at' : Nat) (bad : Int) : Rd3 := (noX, at', if bad < 0 then (at' : Int) else bad)
section
variable (nb : List UInt8 → Int) (rsv : List UInt8 → Bool) (l : List Tk)
def isT (s : List UInt8) (at' : Nat) (bad : Int) : Bool := decide (bad < 0) && (match l[at']? with | some w => decide (w.2 = s) | none => false)
/-- Operators of level k, one behind the other; next reads what lies between them. -/
def lop (next : Nat → Int → Rd3) (k : Nat) : Nat → Rd3 → Rd3
  | 0, r => r
  | g + 1, r => match l[r.2.1]? with
    | none => r
    | some w => if r.2.2 < 0 ∧ lv w.2 = k then
        (if k = 3 then (mk2 ⟨w.2.toArray⟩ r.1 (next (r.2.1 + 1) r.2.2).1, (next (r.2.1 + 1) r.2.2).2) else lop next k g (mk2 ⟨w.2.toArray⟩ r.1 (next (r.2.1 + 1) r.2.2).1, (next (r.2.1 + 1) r.2.2).2))
      else r
/-- An expression whose operators are of level k, or stronger; 6: none at all. -/
def psr : Nat → Nat → Nat → Int → Rd3
  | 0, _, at', bad => failR at' bad
  | f + 1, k, at', bad =>
    if k = 6 then
      (if 0 ≤ bad then failR at' bad else match l[at']? with
      | none => failR at' bad
      | some w =>
        if w.2 = [33] ∨ w.2 = [45] then (mk1 (if w.2 = [45] then 4 else 3) (psr f 6 (at' + 1) bad).1, (psr f 6 (at' + 1) bad).2)
        else if w.2 = [40] then (if isT l [41] (psr f 1 (at' + 1) bad).2.1 (psr f 1 (at' + 1) bad).2.2 = true then ((psr f 1 (at' + 1) bad).1, (psr f 1 (at' + 1) bad).2.1 + 1, (psr f 1 (at' + 1) bad).2.2) else failR (psr f 1 (at' + 1) bad).2.1 (psr f 1 (at' + 1) bad).2.2)
        else if w.1 = 2 then (mk0 1 (nb w.2) ⟨#[]⟩, at' + 1, bad)
        else if w.1 = 1 ∧ rsv w.2 = false then (mk0 2 0 ⟨w.2.toArray⟩, at' + 1, bad)
        else failR at' bad)
    else lop l (psr f (k + 1)) k l.length (psr f (k + 1) at' bad)
end

/-- No word of a Ref is reserved; Lits are told by their digits. -/
def okF (nb : List UInt8 → Int) (rsv : List UInt8 → Bool) (dc : Int → List UInt8) (k n : Int) (s : ByteArray) (p : List Prop) : Prop :=
  (k = 1 → nb (dc n) = n ∧ lv (dc n) = 0 ∧ dc n ≠ [33] ∧ dc n ≠ [45] ∧ dc n ≠ [40]) ∧ (k = 2 → rsv s.data.toList = false ∧ lv s.data.toList = 0 ∧ s.data.toList ≠ [33] ∧ s.data.toList ≠ [45] ∧ s.data.toList ≠ [40]) ∧ (k = 5 → 1 ≤ lv s.data.toList) ∧ (1 ≤ k ∧ k ≤ 5) ∧ ∀ q ∈ p, q
def okT (nb : List UInt8 → Int) (rsv : List UInt8 → Bool) (dc : Int → List UInt8) : (d : Nat) → T d → Prop := fold (okF nb rsv dc)

theorem drop_one {α : Type} {l r : List α} {a : α} {i : Nat} (h : l.drop i = a :: r) : l[i]? = some a ∧ l.drop (i + 1) = r := by
  constructor
  · have := congrArg (fun x : List α => x[0]?) h
    simpa using this
  · have := congrArg List.tail h
    simpa using this
/-- All folds take it for the same. -/
def Alk (x : Sx) {d : Nat} (t : T d) : Prop := (∀ (α : Type) (g : Int → Int → ByteArray → List α → α), foldS g x = fold g d t) ∧ (Cl d t → ClX x)
theorem Alk.of {d : Nat} (t : T d) : Alk ⟨d, t⟩ t := ⟨fun _ _ => rfl, id⟩
section
variable {nb : List UInt8 → Int} {rsv : List UInt8 → Bool} {l : List Tk}
variable {dc : Int → List UInt8}
end

/-- A sign that waits: its bytes, and its level (0: a bracket, 6: ahead). -/
abbrev Sg2 := List UInt8 × Nat
/-- What came by now: the operands, the signs that wait (the last ones first), the brackets that are open, whether an operand has ended. -/
structure Yd where
  V : List Sx
  W : List Sg2
  o : Nat
  b : Bool
section
variable (leaf : Tk → Option Sx)
end
section
variable {leaf : Tk → Option Sx} {l : List Tk}
end
section
variable {nb : List UInt8 → Int} {rsv : List UInt8 → Bool} {l : List Tk}
/-- A sign's bytes are a sign's. -/
def GdW1 (w : Tk) : Prop := (w.1 = 1 ∨ w.1 = 2 ∨ w.1 = 3) ∧ (w.1 ≠ 3 → lv w.2 = 0 ∧ w.2 ≠ [33] ∧ w.2 ≠ [45] ∧ w.2 ≠ [40] ∧ w.2 ≠ [41])
end

/-- A piece of a text: a word, or a blank. -/
abbrev Pc := Option Tk
def pieB (p : Pc) : List UInt8 := match p with | some w => w.2 | none => [32]
def txP (ps : List Pc) : List UInt8 := (ps.map pieB).flatten
theorem txP_cons (p : Pc) (r : List Pc) : txP (p :: r) = pieB p ++ txP r := rfl
theorem txP_app (a b : List Pc) : txP (a ++ b) = txP a ++ txP b := by simp [txP]
/-- The word stands right ahead of these bytes. -/
def Fits (w : Tk) (post : List UInt8) : Prop :=
  w.1 ≠ 0 ∧ runes (w.2 ++ post) = runes w.2 ++ runes post ∧ fst1 (runes w.2 ++ runes post) = (w.1, (runes w.2).length) ∧ ∃ v t, runes w.2 = v :: t ∧ v.1 ≠ 10 ∧ v.1 ≠ 32 ∧ v.1 ≠ 9 ∧ v.1 ≠ 35
/-- All pieces do. -/
def FitsAll : List Pc → List UInt8 → Prop
  | [], _ => True
  | none :: r, post => FitsAll r post
  | some w :: r, post => Fits w (txP r ++ post) ∧ FitsAll r post
theorem fits_app : ∀ (a b : List Pc) (post : List UInt8), FitsAll a (txP b ++ post) → FitsAll b post → FitsAll (a ++ b) post
  | [], b, post, _, h => h
  | none :: a, b, post, h1, h2 => fits_app a b post h1 h2
  | some w :: a, b, post, h1, h2 => by
    refine ⟨?_, fits_app a b post h1.2 h2⟩
    show Fits w (txP (a ++ b) ++ post)
    rw [txP_app, List.append_assoc]
    exact h1.1
/-- An expression's pieces. -/
def aroP (c : Nat × List Pc) (least : Nat) : List Pc := if c.1 < least then some (3, [40]) :: (c.2 ++ [some (3, [41])]) else c.2
def pcF (dc : Int → List UInt8) (k n : Int) (s : ByteArray) (p : List (Nat × List Pc)) : Nat × List Pc :=
  (if k = 5 then lv s.data.toList else 6,
   if k = 1 then [some (2, dc n)] else if k = 2 then [some (1, s.data.toList)] else if k = 3 then some (3, [33]) :: aroP (p.getD 0 (0, [])) 6 else if k = 4 then some (3, [45]) :: aroP (p.getD 0 (0, [])) 6
   else aroP (p.getD 0 (0, [])) (if lv s.data.toList = 3 then 4 else lv s.data.toList) ++ none :: some (3, s.data.toList) :: none :: aroP (p.getD 1 (0, [])) (lv s.data.toList + 1))
def pcs (dc : Int → List UInt8) : (d : Nat) → T d → Nat × List Pc := fold (pcF dc)
theorem runes_ne : ∀ (n : Nat) (l : List UInt8), l.length ≤ n → ∀ v ∈ runes l, v.2 ≠ []
  | 0, l, h, v, hv => by
    have : l = [] := List.eq_nil_of_length_eq_zero (by omega)
    subst this
    rw [runes_nil] at hv; cases hv
  | n + 1, l, h, v, hv => by
    by_cases hl : l = []
    · subst hl; rw [runes_nil] at hv; cases hv
    · have h1 := nx_pos hl
      have h2 := nx_le hl
      rw [runes_cons hl] at hv
      rcases List.mem_cons.1 hv with rfl | hv
      · intro e
        have := congrArg List.length e
        rw [List.length_take, List.length_nil] at this
        have h3 : 0 < l.length := List.length_pos_iff.2 hl
        omega
      · exact runes_ne n _ (by rw [List.length_drop]; omega) v hv
theorem byt_zero : ∀ (vs : List Ru), (∀ v ∈ vs, v.2 ≠ []) → (byt vs).length = 0 → vs = []
  | [], _, _ => rfl
  | v :: r, h, hl => by
    rw [byt_cons, List.length_append] at hl
    have := h v (by simp)
    exact absurd (List.eq_nil_of_length_eq_zero (by omega)) this
theorem spn_full {b : List UInt8} (h : spb b = b.length) : spn (runes b) = (runes b).length := by
  have h1 := byt_runes b.length b (Nat.le_refl _)
  have h2 : byt ((runes b).take (spn (runes b))) ++ byt ((runes b).drop (spn (runes b))) = b := by rw [← byt_append, List.take_append_drop, h1]
  have h3 := congrArg List.length h2
  rw [List.length_append] at h3
  unfold spb at h
  have h4 := byt_zero _ (fun v hv => runes_ne b.length b (Nat.le_refl _) v (List.mem_of_mem_drop hv)) (by omega : (byt ((runes b).drop (spn (runes b)))).length = 0)
  have h5 := spn_le (runes b)
  have h6 := congrArg List.length h4
  rw [List.length_drop] at h6
  simp at h6
  omega
/-- What stands behind: nothing, a blank or a bracket. -/
def Post (post : List UInt8) : Prop := post = [] ∨ ∃ c r, post = c :: r ∧ (c = 32 ∨ c = 41 ∨ c = 10)
theorem Post.fst {a post : List UInt8} (ha : a ≠ []) (h : Post post) : runes (a ++ post) = runes a ++ runes post ∧ fst1 (runes a ++ runes post) = fst1 (runes a) := by
  rcases h with rfl | ⟨c, r, rfl, hc⟩
  · rw [List.append_nil, runes_nil, List.append_nil]; exact ⟨rfl, rfl⟩
  · have hc8 : c.toNat < 128 := by rcases hc with rfl | rfl | rfl <;> decide
    have hr := runes_stop a.length a (Nat.le_refl _) hc8 r
    have hne : runes a ≠ [] := by rw [runes_cons ha]; simp
    refine ⟨hr, ?_⟩
    rw [runes_ascii hc8]
    refine fst1_stop ?_ _ _ hne
    rcases hc with rfl | rfl | rfl
    · exact ⟨by decide, by decide, by decide, by decide⟩
    · exact ⟨by decide, by decide, by decide, by decide⟩
    · exact ⟨by decide, by decide, by decide, by decide⟩
theorem letter_far {r : Int} (h : letter r = true) : r ≠ 10 ∧ r ≠ 32 ∧ r ≠ 9 ∧ r ≠ 35 ∧ r ≠ 61 := by
  unfold letter at h
  rw [decide_eq_true_eq] at h
  omega
theorem dgt_far {r : Int} (h : dgt r = true) : letter r = false ∧ r ≠ 10 ∧ r ≠ 32 ∧ r ≠ 9 ∧ r ≠ 35 ∧ r ≠ 61 := by
  unfold dgt at h
  rw [decide_eq_true_eq] at h
  refine ⟨?_, by omega⟩
  unfold letter
  rw [decide_eq_false_iff_not]
  omega
theorem fits_name {b post : List UInt8} (hn : nameS b = true) (hp : Post post) : Fits (1, b) post := by
  unfold nameS at hn
  simp only [Bool.and_eq_true, decide_eq_true_eq, beq_iff_eq] at hn
  obtain ⟨⟨h1, h2⟩, h3⟩ := hn
  have hb : b ≠ [] := fun e => by subst e; revert h1; decide
  obtain ⟨p1, p2⟩ := hp.fst hb
  have hs := spn_full (b := b) (by omega)
  have hc := runes_cons hb
  obtain ⟨f1, f2, f3, f4, _⟩ := letter_far h1
  refine ⟨by show (1 : Nat) ≠ 0; decide, p1, ?_, _, _, hc, f1, f2, f3, f4⟩
  rw [p2]
  show fst1 (runes b) = (1, (runes b).length)
  rw [← hs]
  rw [hc] at h3 ⊢
  rw [fst1_cons, if_pos h1, if_pos h3]
theorem fits_shape {c : UInt8} {post : List UInt8} (h8 : c.toNat < 128) (hl : letter c.toNat = false) (hd : dgt c.toNat = false) (ho : one c.toNat = 1) (hf : (c.toNat : Int) ≠ 10 ∧ (c.toNat : Int) ≠ 32 ∧ (c.toNat : Int) ≠ 9 ∧ (c.toNat : Int) ≠ 35) (hp : ∀ v r, runes post = v :: r → pair c.toNat v.1 = false) : Fits (3, [c]) post := by
  have e1 : runes [c] = [((c.toNat : Int), [c])] := by rw [runes_ascii h8, runes_nil]
  refine ⟨by show (3 : Nat) ≠ 0; decide, ?_, ?_, _, _, e1, hf.1, hf.2.1, hf.2.2.1, hf.2.2.2⟩
  · show runes (c :: post) = runes [c] ++ runes post
    rw [runes_ascii h8, e1]; rfl
  · show fst1 (runes [c] ++ runes post) = (3, (runes [c]).length)
    rw [e1]
    show fst1 (((c.toNat : Int), [c]) :: runes post) = (3, 1)
    rw [fst1_cons, if_neg (by rw [hl]; decide), if_neg (by rw [hd]; decide)]
    have hs : sgn (((c.toNat : Int), [c]) :: runes post) = 1 := by
      cases hq : runes post with
      | nil => exact ho
      | cons v r =>
        show (if pair c.toNat v.1 = true then 2 else one c.toNat) = 1
        rw [hp v r hq, if_neg (by decide), ho]
    rw [hs]; rfl
theorem fits_open (post : List UInt8) : Fits (3, [40]) post := fits_shape (by decide) (by decide) (by decide) (by decide) (by decide) (fun v r _ => by unfold pair; rw [decide_eq_false_iff_not]; simp)
theorem fits_shut (post : List UInt8) : Fits (3, [41]) post := fits_shape (by decide) (by decide) (by decide) (by decide) (by decide) (fun v r _ => by unfold pair; rw [decide_eq_false_iff_not]; simp)
theorem fits_neg (post : List UInt8) : Fits (3, [45]) post := fits_shape (by decide) (by decide) (by decide) (by decide) (by decide) (fun v r _ => by unfold pair; rw [decide_eq_false_iff_not]; simp)
theorem fits_not {post : List UInt8} (h : ∀ v r, runes post = v :: r → v.1 ≠ 61) : Fits (3, [33]) post := fits_shape (by decide) (by decide) (by decide) (by decide) (by decide) (fun v r hv => by
  have := h v r hv
  unfold pair; rw [decide_eq_false_iff_not]; simp [this])
theorem fits_num {b post : List UInt8} (hb : numB b = true) (hp : Post post) : Fits (2, b) post ∧ ∀ v r, runes (b ++ post) = v :: r → v.1 ≠ 61 := by
  have hnn := numB_numb (l := b) (runes b) (fun v hv => hv)
  rw [byt_runes b.length b (Nat.le_refl _), hb] at hnn
  have hq := hnn.symm
  have hb0 : b ≠ [] := fun e => by subst e; revert hb; decide
  have hc := runes_cons hb0
  unfold numb at hq
  simp only [Bool.and_eq_true, List.all_eq_true] at hq
  have hall : ∀ v ∈ runes b, dgt v.1 = true := hq.1.2
  have hd : dgt (nx b).1 = true := hall ((nx b).1, b.take (nx b).2) (by rw [hc]; exact List.mem_cons_self)
  obtain ⟨f0, f1, f2, f3, f4, f5⟩ := dgt_far hd
  have hsp : ∀ (vs : List Ru), (∀ v ∈ vs, dgt v.1 = true) → spn vs = vs.length := fun vs => by
    induction vs with
    | nil => intro _; rfl
    | cons v r ih =>
      intro h
      unfold spn
      rw [if_pos (dgt_insd (h v (by simp))), ih (fun x hx => h x (by simp [hx]))]
      rfl
  have hs := hsp _ hall
  obtain ⟨p1, p2⟩ := hp.fst hb0
  refine ⟨⟨by show (2 : Nat) ≠ 0; decide, p1, ?_, _, _, hc, f1, f2, f3, f4⟩, ?_⟩
  · rw [p2]
    show fst1 (runes b) = (2, (runes b).length)
    rw [hc] at hs hnn ⊢
    rw [fst1_cons, if_neg (by rw [f0]; decide), if_pos hd, hs, List.take_length, ← hnn, if_pos rfl]
  · intro v r hv
    rw [p1, hc] at hv
    injection hv with h1 _
    rw [← h1]; exact f5
theorem name_head {b post : List UInt8} (hn : nameS b = true) (hp : Post post) : ∀ v r, runes (b ++ post) = v :: r → v.1 ≠ 61 := by
  unfold nameS at hn
  simp only [Bool.and_eq_true] at hn
  have hb : b ≠ [] := fun e => by subst e; revert hn; decide
  intro v r hv
  rw [(hp.fst hb).1, runes_cons hb] at hv
  injection hv with h1 _
  rw [← h1]; exact (letter_far hn.1.1).2.2.2.2
/-- The nine operators. -/
def opB (s : List UInt8) : Prop := s = [43] ∨ s = [45] ∨ s = [42] ∨ s = [60] ∨ s = [60, 61] ∨ s = [61, 61] ∨ s = [33, 61] ∨ s = [38, 38] ∨ s = [124, 124]
theorem fits_op {s post : List UInt8} (h : opB s) : Fits (3, s) (32 :: post) := by
  have hp : Post (32 :: post) := .inr ⟨32, post, rfl, .inl rfl⟩
  have key : ∀ s : List UInt8, s ≠ [] → fst1 (runes s) = (3, (runes s).length) → (∃ v t, runes s = v :: t ∧ v.1 ≠ 10 ∧ v.1 ≠ 32 ∧ v.1 ≠ 9 ∧ v.1 ≠ 35) → Fits (3, s) (32 :: post) := fun s h1 h2 h3 => by
    obtain ⟨p1, p2⟩ := hp.fst h1
    exact ⟨by show (3 : Nat) ≠ 0; decide, p1, p2.trans h2, h3⟩
  have one1 : ∀ c : UInt8, c.toNat < 128 → runes [c] = [((c.toNat : Int), [c])] := fun c h => by rw [runes_ascii h, runes_nil]
  have two2 : ∀ c e : UInt8, c.toNat < 128 → e.toNat < 128 → runes [c, e] = [((c.toNat : Int), [c]), ((e.toNat : Int), [e])] := fun c e h h' => by rw [runes_ascii h, runes_ascii h', runes_nil]
  rcases h with rfl | rfl | rfl | rfl | rfl | rfl | rfl | rfl | rfl
  · exact key _ (by decide) (by rw [one1 _ (by decide)]; rfl) ⟨_, _, one1 _ (by decide), by decide, by decide, by decide, by decide⟩
  · exact key _ (by decide) (by rw [one1 _ (by decide)]; rfl) ⟨_, _, one1 _ (by decide), by decide, by decide, by decide, by decide⟩
  · exact key _ (by decide) (by rw [one1 _ (by decide)]; rfl) ⟨_, _, one1 _ (by decide), by decide, by decide, by decide, by decide⟩
  · exact key _ (by decide) (by rw [one1 _ (by decide)]; rfl) ⟨_, _, one1 _ (by decide), by decide, by decide, by decide, by decide⟩
  · exact key _ (by decide) (by rw [two2 _ _ (by decide) (by decide)]; rfl) ⟨_, _, two2 _ _ (by decide) (by decide), by decide, by decide, by decide, by decide⟩
  · exact key _ (by decide) (by rw [two2 _ _ (by decide) (by decide)]; rfl) ⟨_, _, two2 _ _ (by decide) (by decide), by decide, by decide, by decide, by decide⟩
  · exact key _ (by decide) (by rw [two2 _ _ (by decide) (by decide)]; rfl) ⟨_, _, two2 _ _ (by decide) (by decide), by decide, by decide, by decide, by decide⟩
  · exact key _ (by decide) (by rw [two2 _ _ (by decide) (by decide)]; rfl) ⟨_, _, two2 _ _ (by decide) (by decide), by decide, by decide, by decide, by decide⟩
  · exact key _ (by decide) (by rw [two2 _ _ (by decide) (by decide)]; rfl) ⟨_, _, two2 _ _ (by decide) (by decide), by decide, by decide, by decide, by decide⟩
/-- Its names are names, its digits numbers, its operators operators. -/
def rtF (dc : Int → List UInt8) (k n : Int) (s : ByteArray) (p : List Prop) : Prop := (k = 1 → numB (dc n) = true) ∧ (k = 2 → nameS s.data.toList = true) ∧ (k = 5 → opB s.data.toList) ∧ (1 ≤ k ∧ k ≤ 5) ∧ ∀ q ∈ p, q
def rtT (dc : Int → List UInt8) : (d : Nat) → T d → Prop := fold (rtF dc)
/-- No text begins with '='. -/
def Hd (ps : List Pc) : Prop := ∀ post, Post post → ∀ v r, runes (txP ps ++ post) = v :: r → v.1 ≠ 61
theorem post_shut (post : List UInt8) : Post (41 :: post) := .inr ⟨41, post, rfl, .inr (.inl rfl)⟩
theorem post_line (post : List UInt8) : Post (10 :: post) := .inr ⟨10, post, rfl, .inr (.inr rfl)⟩
theorem post_blank (post : List UInt8) : Post (32 :: post) := .inr ⟨32, post, rfl, .inl rfl⟩
theorem hd_of {c : UInt8} (h8 : c.toNat < 128) (h : (c.toNat : Int) ≠ 61) (k : Nat) (r : List Pc) : Hd (some (k, [c]) :: r) := fun post _ v t hv => by
  have e : txP (some (k, [c]) :: r) ++ post = c :: (txP r ++ post) := rfl
  rw [e, runes_ascii h8] at hv
  injection hv with h1 _
  rw [← h1]; exact h
theorem fits_aro {dc : Int → List UInt8} {d : Nat} {p : T d} (h : (∀ post, Post post → FitsAll (pcs dc d p).2 post) ∧ Hd (pcs dc d p).2) (m : Nat) : (∀ post, Post post → FitsAll (aroP (pcs dc d p) m) post) ∧ Hd (aroP (pcs dc d p) m) := by
  unfold aroP
  split
  · refine ⟨fun post hp => ⟨fits_open _, ?_⟩, hd_of (by decide) (by decide) _ _⟩
    exact fits_app _ _ _ (h.1 _ (post_shut post)) ⟨fits_shut _, trivial⟩
  · exact h
theorem fits_tree (dc : Int → List UInt8) : ∀ (d : Nat) (t : T d), Cl d t → rtT dc d t → (∀ post, Post post → FitsAll (pcs dc d t).2 post) ∧ Hd (pcs dc d t).2
  | 0, t, _, _ => Empty.elim t
  | d + 1, t, hc, hr => by
    rcases hc.cases with ⟨n, rfl⟩ | ⟨s, rfl⟩ | ⟨k, p, hk, rfl, hp⟩ | ⟨s, p, q, rfl, hp, hq⟩ | rfl
    · have hn : numB (dc n) = true := hr.1 rfl
      have e : (pcs dc (d + 1) (mkT 1 n ⟨#[]⟩ [] : T (d + 1))).2 = [some (2, dc n)] := rfl
      rw [e]
      have ht : txP [some ((2, dc n) : Tk)] = dc n := by simp [txP, pieB]
      refine ⟨fun post hp => ⟨(fits_num hn hp).1, trivial⟩, fun post hp v r hv => ?_⟩
      rw [ht] at hv
      exact (fits_num hn hp).2 v r hv
    · have hn : nameS s.data.toList = true := hr.2.1 rfl
      have e : (pcs dc (d + 1) (mkT 2 0 s [] : T (d + 1))).2 = [some (1, s.data.toList)] := rfl
      rw [e]
      have ht : txP [some ((1, s.data.toList) : Tk)] = s.data.toList := by simp [txP, pieB]
      refine ⟨fun post hp => ⟨fits_name hn hp, trivial⟩, fun post hp v r hv => ?_⟩
      rw [ht] at hv
      exact name_head hn hp v r hv
    · have hrp : rtT dc d p := by
        have h2 : ∀ z ∈ [fold (rtF dc) d p], z := hr.2.2.2.2
        exact h2 (fold (rtF dc) d p) List.mem_cons_self
      obtain ⟨a1, a2⟩ := fits_aro (fits_tree dc d p hp hrp) 6
      rcases hk with rfl | rfl
      · have e : (pcs dc (d + 1) (mkT 3 0 ⟨#[]⟩ [p] : T (d + 1))).2 = some (3, [33]) :: aroP (pcs dc d p) 6 := rfl
        rw [e]
        exact ⟨fun post hp => ⟨fits_not (a2 post hp), a1 post hp⟩, hd_of (by decide) (by decide) _ _⟩
      · have e : (pcs dc (d + 1) (mkT 4 0 ⟨#[]⟩ [p] : T (d + 1))).2 = some (3, [45]) :: aroP (pcs dc d p) 6 := rfl
        rw [e]
        exact ⟨fun post hp => ⟨fits_neg _, a1 post hp⟩, hd_of (by decide) (by decide) _ _⟩
    · have h2 : ∀ z ∈ [fold (rtF dc) d p, fold (rtF dc) d q], z := hr.2.2.2.2
      have ho : opB s.data.toList := hr.2.2.1 rfl
      obtain ⟨m, hm⟩ : ∃ m, (if lv s.data.toList = 3 then 4 else lv s.data.toList) = m := ⟨_, rfl⟩
      have e : (pcs dc (d + 1) (mkT 5 0 s [p, q] : T (d + 1))).2 = aroP (pcs dc d p) (if lv s.data.toList = 3 then 4 else lv s.data.toList) ++ none :: some (3, s.data.toList) :: none :: aroP (pcs dc d q) (lv s.data.toList + 1) := rfl
      rw [e, hm]
      obtain ⟨a1, a2⟩ := fits_aro (fits_tree dc d p hp (h2 (fold (rtF dc) d p) List.mem_cons_self)) m
      obtain ⟨b1, b2⟩ := fits_aro (fits_tree dc d q hq (h2 (fold (rtF dc) d q) (List.mem_cons_of_mem _ List.mem_cons_self))) (lv s.data.toList + 1)
      refine ⟨fun post hp => ?_, fun post hp v r hv => ?_⟩
      · exact fits_app _ _ _ (a1 _ (post_blank _)) ⟨fits_op ho, b1 post hp⟩
      · rw [txP_app, List.append_assoc] at hv
        exact a2 _ (post_blank _) v r hv
    · have : (1 : Int) ≤ 0 ∧ (0 : Int) ≤ 5 := hr.2.2.2.1
      omega

theorem valB_app : ∀ (a b : List UInt8) (n : Int), valB n (a ++ b) = valB (valB n a) b
  | [], b, n => rfl
  | c :: a, b, n => valB_app a b _
theorem dd_small {u : Nat} (h : u < 10) : decDigits u = [UInt8.ofNat (48 + u)] := by
  rw [decDigits]
  simp [h]
theorem dd_more {u : Nat} (h : ¬ u < 10) : decDigits u = decDigits (u / 10) ++ [UInt8.ofNat (48 + u % 10)] := by
  rw [decDigits]
  simp [h]
theorem dg_nat {u : Nat} (h : u < 10) : (UInt8.ofNat (48 + u)).toNat = 48 + u := by
  rw [UInt8.toNat_ofNat']
  omega
theorem dd_val : ∀ (n u : Nat), u ≤ n → valB 0 (decDigits u) = (u : Int)
  | n, u, h => by
    by_cases hu : u < 10
    · rw [dd_small hu]
      show 10 * 0 + (((UInt8.ofNat (48 + u)).toNat : Int) - 48) = (u : Int)
      rw [dg_nat hu]; omega
    · match n with
      | 0 => omega
      | n + 1 =>
        have ih := dd_val n (u / 10) (by omega)
        rw [dd_more hu, valB_app, ih]
        show 10 * ((u / 10 : Nat) : Int) + (((UInt8.ofNat (48 + u % 10)).toNat : Int) - 48) = (u : Int)
        rw [dg_nat (Nat.mod_lt u (by decide))]
        omega
theorem dd_all : ∀ (n u : Nat), u ≤ n → (decDigits u).all dB = true
  | n, u, h => by
    have h1 : ∀ v, v < 10 → dB (UInt8.ofNat (48 + v)) = true := fun v hv => by
      unfold dB; rw [dg_nat hv, decide_eq_true_eq]; omega
    by_cases hu : u < 10
    · rw [dd_small hu]
      show (dB (UInt8.ofNat (48 + u)) && true) = true
      rw [h1 u hu]; rfl
    · match n with
      | 0 => omega
      | n + 1 =>
        rw [dd_more hu, List.all_append, dd_all n (u / 10) (by omega)]
        show (true && (dB (UInt8.ofNat (48 + u % 10)) && true)) = true
        rw [h1 (u % 10) (Nat.mod_lt u (by decide))]; rfl
theorem dd_head : ∀ (n u : Nat), u ≤ n → 1 ≤ u → ((decDigits u).headD 0).toNat ≠ 48
  | n, u, h, h1 => by
    by_cases hu : u < 10
    · rw [dd_small hu]
      show (UInt8.ofNat (48 + u)).toNat ≠ 48
      rw [dg_nat hu]; omega
    · match n with
      | 0 => omega
      | n + 1 =>
        have ih := dd_head n (u / 10) (by omega) (by omega)
        rw [dd_more hu]
        cases hq : decDigits (u / 10) with
        | nil =>
          have := decDigits_length (u / 10)
          have h2 := nDigits_pos (u / 10)
          rw [hq] at this
          simp at this
          omega
        | cons c r => rw [hq] at ih; exact ih
theorem nd_le : ∀ (k u : Nat), 1 ≤ k → u < 10 ^ k → nDigits u ≤ k
  | 0, _, h, _ => by omega
  | 1, u, _, h => by rw [nDigits_small (by simpa using h)]; exact Nat.le_refl _
  | k + 2, u, _, h => by
    by_cases hu : u < 10
    · rw [nDigits_small hu]; omega
    · rw [nDigits_big hu]
      have : u / 10 < 10 ^ (k + 1) := by rw [Nat.pow_succ] at h; omega
      have := nd_le (k + 1) (u / 10) (by omega) this
      omega
/-- The digits of a number in range are a number's. -/
theorem dd_num {u : Nat} (h : u ≤ 1000000000) : numB (decDigits u) = true := by
  have hl := decDigits_length u
  have h1 := nDigits_pos u
  have h2 := nd_le 10 u (by decide) (by omega)
  unfold numB
  rw [dd_all u u (Nat.le_refl _), dd_val u u (Nat.le_refl _), decide_eq_true (by omega : 1 ≤ (decDigits u).length ∧ (decDigits u).length ≤ 10), decide_eq_true (by omega : (u : Int) ≤ 1000000000)]
  by_cases hu : u < 10
  · rw [dd_small hu]; simp
  · rw [decide_eq_false (dd_head u u (Nat.le_refl _) (by omega))]; rfl

/-- The reserved words. -/
def rsv13 : List (List UInt8) := [[99, 104, 97, 114, 116], [118, 97, 114], [115, 116, 97, 116, 101], [97, 108, 108], [101, 110, 100], [100, 111], [117, 110, 100, 111], [97, 116], [114, 101, 116, 114, 105, 101, 115], [111, 110], [105, 102], [103, 111], [115, 101, 116]]
def rsvB (s : List UInt8) : Bool := rsv13.any (fun x => s == x)
/-- No Ref's name is reserved. -/
def plC : (d : Nat) → T d → Bool := fold (fun k _ s l => !(decide (k = 2) && rsvB s.data.toList) && l.all id)
theorem plC_mk {d : Nat} (k n : Int) (s : ByteArray) (ps : List (T d)) : plC (d + 1) (mkT k n s ps) = (!(decide (k = 2) && rsvB s.data.toList) && ps.all (plC d)) := by
  show (!(decide (k = 2) && rsvB s.data.toList) && (ps.map (plC d)).all id) = _
  rw [List.all_map]; rfl
/-- A number's digits. -/
def dcN (n : Int) : List UInt8 := decDigits n.toNat
theorem opr_opB {s : ByteArray} (h : opr s = true) : opB s.data.toList := by
  unfold opr ops9 at h
  simp only [List.any_cons, List.any_nil, Bool.or_false, Bool.or_eq_true, beq_iff_eq] at h
  exact h
theorem opB_lv {s : List UInt8} (h : opB s) : 1 ≤ lv s := by
  rcases h with rfl | rfl | rfl | rfl | rfl | rfl | rfl | rfl | rfl <;> decide
theorem lv_opB {s : List UInt8} (h : lv s ≠ 0) : opB s := by
  unfold lv at h
  unfold opB
  by_cases a : s = [124, 124]
  · simp [a]
  rw [if_neg a] at h
  by_cases b : s = [38, 38]
  · simp [b]
  rw [if_neg b] at h
  by_cases c : s = [60] ∨ s = [60, 61] ∨ s = [61, 61] ∨ s = [33, 61]
  · rcases c with c | c | c | c <;> simp [c]
  rw [if_neg c] at h
  by_cases e : s = [43] ∨ s = [45]
  · rcases e with e | e <;> simp [e]
  rw [if_neg e] at h
  by_cases g : s = [42]
  · simp [g]
  rw [if_neg g] at h
  exact absurd rfl h
theorem name_far {s : List UInt8} (h : nameS s = true) : lv s = 0 ∧ s ≠ [33] ∧ s ≠ [45] ∧ s ≠ [40] := by
  have key : ∀ c : UInt8, ∀ r : List UInt8, c.toNat < 128 → letter c.toNat = false → s ≠ c :: r := fun c r h8 hl e => by
    subst e
    unfold nameS at h
    simp only [Bool.and_eq_true] at h
    have h1 := h.1.1
    rw [nx_ascii h8, hl] at h1
    cases h1
  refine ⟨?_, key 33 [] (by decide) (by decide), key 45 [] (by decide) (by decide), key 40 [] (by decide) (by decide)⟩
  refine Classical.byContradiction (fun hl => ?_)
  rcases lv_opB hl with e | e | e | e | e | e | e | e | e
  · exact key 43 [] (by decide) (by decide) e
  · exact key 45 [] (by decide) (by decide) e
  · exact key 42 [] (by decide) (by decide) e
  · exact key 60 [] (by decide) (by decide) e
  · exact key 60 [61] (by decide) (by decide) e
  · exact key 61 [61] (by decide) (by decide) e
  · exact key 33 [61] (by decide) (by decide) e
  · exact key 38 [38] (by decide) (by decide) e
  · exact key 124 [124] (by decide) (by decide) e
theorem num_far {s : List UInt8} (h : numB s = true) : lv s = 0 ∧ s ≠ [33] ∧ s ≠ [45] ∧ s ≠ [40] := by
  have key : ∀ c : UInt8, ∀ r : List UInt8, dB c = false → s ≠ c :: r := fun c r hl e => by
    subst e
    unfold numB at h
    simp only [Bool.and_eq_true, List.all_cons] at h
    have h1 := h.1.2.1
    rw [hl] at h1
    cases h1
  refine ⟨?_, key 33 [] (by decide), key 45 [] (by decide), key 40 [] (by decide)⟩
  refine Classical.byContradiction (fun hl => ?_)
  rcases lv_opB hl with e | e | e | e | e | e | e | e | e
  · exact key 43 [] (by decide) e
  · exact key 45 [] (by decide) e
  · exact key 42 [] (by decide) e
  · exact key 60 [] (by decide) e
  · exact key 60 [61] (by decide) e
  · exact key 61 [61] (by decide) e
  · exact key 33 [61] (by decide) e
  · exact key 38 [38] (by decide) e
  · exact key 124 [124] (by decide) e
theorem okT_mk {nb : List UInt8 → Int} {rsv : List UInt8 → Bool} {dc : Int → List UInt8} {d : Nat} {k n : Int} {s : ByteArray} {ps : List (T d)} : okT nb rsv dc (d + 1) (mkT k n s ps) ↔ okF nb rsv dc k n s (ps.map (okT nb rsv dc d)) := Iff.rfl
theorem rtT_mk {dc : Int → List UInt8} {d : Nat} {k n : Int} {s : ByteArray} {ps : List (T d)} : rtT dc (d + 1) (mkT k n s ps) ↔ rtF dc k n s (ps.map (rtT dc d)) := Iff.rfl
/-- What is sound, without reserved names, has the words and the text that can be read. -/
theorem ok_sound : ∀ (d : Nat) (t : T d), Cl d t → sdC d t = true → plC d t = true → okT (valB 0) rsvB dcN d t ∧ rtT dcN d t
  | 0, t, _, _, _ => Empty.elim t
  | d + 1, t, hc, hs, hp => by
    rcases hc.cases with ⟨n, rfl⟩ | ⟨s, rfl⟩ | ⟨k, p, hk, rfl, hcp⟩ | ⟨s, p, q, rfl, hcp, hcq⟩ | rfl
    · rw [sdC_mk, if_pos rfl] at hs
      simp only [Bool.and_eq_true, decide_eq_true_eq] at hs
      have hn : numB (dcN n) = true := dd_num (by omega)
      obtain ⟨f1, f2, f3, f4⟩ := num_far hn
      have hv : valB 0 (dcN n) = n := by unfold dcN; rw [dd_val _ _ (Nat.le_refl _)]; omega
      exact ⟨okT_mk.2 ⟨fun _ => ⟨hv, f1, f2, f3, f4⟩, fun h => by simp at h, fun h => by simp at h, by decide, fun z hz => by cases hz⟩, rtT_mk.2 ⟨fun _ => hn, fun h => by simp at h, fun h => by simp at h, by decide, fun z hz => by cases hz⟩⟩
    · rw [sdC_mk, if_neg (by decide), if_pos rfl] at hs
      rw [plC_mk] at hp
      have hr : rsvB s.data.toList = false := by simpa using hp
      obtain ⟨f1, f2, f3, f4⟩ := name_far hs
      exact ⟨okT_mk.2 ⟨fun h => by simp at h, fun _ => ⟨hr, f1, f2, f3, f4⟩, fun h => by simp at h, by decide, fun z hz => by cases hz⟩, rtT_mk.2 ⟨fun h => by simp at h, fun _ => hs, fun h => by simp at h, by decide, fun z hz => by cases hz⟩⟩
    · have hsp : sdC d p = true := by
        rw [sdC_mk, if_neg (by omega), if_neg (by omega), if_pos hk] at hs
        simpa using hs
      have hpp : plC d p = true := by
        rw [plC_mk] at hp
        simp only [Bool.and_eq_true, List.all_cons, List.all_nil, Bool.and_true] at hp
        exact hp.2
      obtain ⟨a, b⟩ := ok_sound d p hcp hsp hpp
      refine ⟨okT_mk.2 ⟨fun h => by omega, fun h => by omega, fun h => by omega, by omega, fun z hz => ?_⟩, rtT_mk.2 ⟨fun h => by omega, fun h => by omega, fun h => by omega, by omega, fun z hz => ?_⟩⟩
      · obtain ⟨x, hx, rfl⟩ := List.mem_map.1 hz
        obtain rfl := List.mem_singleton.1 hx
        exact a
      · obtain ⟨x, hx, rfl⟩ := List.mem_map.1 hz
        obtain rfl := List.mem_singleton.1 hx
        exact b
    · have hs2 : opr s = true ∧ sdC d p = true ∧ sdC d q = true := by
        rw [sdC_mk, if_neg (by omega), if_neg (by omega), if_neg (by omega), if_pos rfl] at hs
        simpa using hs
      have hp2 : plC d p = true ∧ plC d q = true := by
        rw [plC_mk] at hp
        simpa using hp
      obtain ⟨a, b⟩ := ok_sound d p hcp hs2.2.1 hp2.1
      obtain ⟨a', b'⟩ := ok_sound d q hcq hs2.2.2 hp2.2
      have ho := opr_opB hs2.1
      refine ⟨okT_mk.2 ⟨fun h => by omega, fun h => by omega, fun _ => opB_lv ho, by omega, fun z hz => ?_⟩, rtT_mk.2 ⟨fun h => by omega, fun h => by omega, fun _ => ho, by omega, fun z hz => ?_⟩⟩
      · obtain ⟨x, hx, rfl⟩ := List.mem_map.1 hz
        rcases List.mem_cons.1 hx with rfl | hx
        · exact a
        · obtain rfl := List.mem_singleton.1 hx
          exact a'
      · obtain ⟨x, hx, rfl⟩ := List.mem_map.1 hz
        rcases List.mem_cons.1 hx with rfl | hx
        · exact b
        · obtain rfl := List.mem_singleton.1 hx
          exact b'
    · unfold none0 at hs
      rw [sdC_mk] at hs
      simp at hs

/-- The runes are one word of this kind, and no more. -/
structure OneW (K : Nat) (seg : List Ru) : Prop where
  k : K ≠ 0
  f : fst1 seg = (K, seg.length)
  g : ∀ v ∈ seg, Good v
  h : ∃ v t, seg = v :: t ∧ v.1 ≠ 10 ∧ v.1 ≠ 32 ∧ v.1 ≠ 9 ∧ v.1 ≠ 35
  l : (byt seg).length ≤ 12000
theorem OneW.runes {K : Nat} {seg : List Ru} (h : OneW K seg) : runes (byt seg) = seg := by
  have := runes_goods seg [] h.g
  rw [List.append_nil, runes_nil, List.append_nil] at this
  exact this
/-- A word's text has that word alone. -/
theorem OneW.words {K : Nat} {seg : List Ru} (h : OneW K seg) : wordsS (byt seg) = ([(K, seg, 1, 1)], (0, 0), 0) := by
  have hr := h.runes
  have hl := h.l
  have hf := h.f
  have hk := h.k
  unfold wordsS
  rw [if_neg (by omega), hr]
  obtain ⟨v, t, e, h1, h2, h3, h4⟩ := h.h
  rw [e] at hf ⊢
  rw [wrds_cons, if_neg h1, if_neg (fun q => q.elim h2 h3), if_neg h4, hf, if_neg hk, if_neg (by decide), List.take_length, List.drop_length, wrds_nil]
  rfl
theorem OneW.kind {K : Nat} {seg : List Ru} (h : OneW K seg) : (K = 1 ∧ nameS (byt seg) = true) ∨ (K = 2 ∧ numB (byt seg) = true) ∨ (K = 3 ∧ ∃ v t, seg = v :: t ∧ letter v.1 = false ∧ dgt v.1 = false) := by
  have hr := h.runes
  have hf := h.f
  have hk := h.k
  obtain ⟨v, t, e, _⟩ := h.h
  have hbne : byt seg ≠ [] := fun e0 => by rw [e0, runes_nil] at hr; rw [← hr] at e; cases e
  have hnx : (nx (byt seg)).1 = v.1 := by
    have := runes_cons hbne
    rw [hr, e] at this
    injection this with h1 _
    rw [e]
    exact (congrArg Prod.fst h1).symm
  rw [e, fst1_cons, ← e] at hf
  by_cases a : letter v.1 = true
  · rw [if_pos a] at hf
    by_cases b : spn seg ≤ 24
    · rw [if_pos b] at hf
      injection hf with h1 h2
      left
      refine ⟨h1.symm, ?_⟩
      unfold nameS
      have hs : spb (byt seg) = (byt seg).length := by unfold spb; rw [hr, h2, List.take_length]
      rw [hnx, a, hs, hr, decide_eq_true b]; simp
    · rw [if_neg b] at hf
      injection hf with h1 _
      exact absurd h1.symm hk
  · rw [if_neg a] at hf
    by_cases d : dgt v.1 = true
    · rw [if_pos d] at hf
      by_cases b : numb (seg.take (spn seg)) = true
      · rw [if_pos b] at hf
        injection hf with h1 h2
        right; left
        refine ⟨h1.symm, ?_⟩
        rw [h2, List.take_length] at b
        rw [numB_numb (l := byt seg) seg (fun v hv => by rw [hr]; exact hv)]
        exact b
      · rw [if_neg b] at hf
        injection hf with h1 _
        exact absurd h1.symm hk
    · rw [if_neg d] at hf
      by_cases b : sgn seg = 0
      · rw [if_pos b] at hf
        injection hf with h1 _
        exact absurd h1.symm hk
      · rw [if_neg b] at hf
        injection hf with h1 _
        right; right
        exact ⟨h1.symm, v, t, e, by simpa using a, by simpa using d⟩
/-- A word as it is read: its kind, its bytes. -/
def tkW (x : Wd) : Tk := (x.1, byt x.2.1)
theorem OneW.good {K : Nat} {seg : List Ru} (h : OneW K seg) : GdW1 (K, byt seg) := by
  rcases h.kind with ⟨rfl, h1⟩ | ⟨rfl, h1⟩ | ⟨rfl, _⟩
  · obtain ⟨a, b, c, d⟩ := name_far h1
    exact ⟨.inl rfl, fun _ => ⟨a, b, c, d, fun e => by simp only at e; rw [e] at h1; revert h1; decide⟩⟩
  · obtain ⟨a, b, c, d⟩ := num_far h1
    exact ⟨.inr (.inl rfl), fun _ => ⟨a, b, c, d, fun e => by simp only at e; rw [e] at h1; revert h1; decide⟩⟩
  · exact ⟨.inr (.inr rfl), fun h => absurd rfl h⟩
section
variable {nb : List UInt8 → Int} {rsv : List UInt8 → Bool} {l : List Tk} {Q : Nat → Nat → Sx → Prop}
end
def cntX (x : Sx) : Nat := cnt x.1 x.2
theorem nx4 {l : List UInt8} (h : l ≠ []) : (nx l).2 ≤ 4 := by
  rw [nx_size h, decodeL_N]
  generalize (l.getD 0 0).toNat = b0
  generalize (l.getD 1 0).toNat = b1
  generalize (l.getD 2 0).toNat = b2
  generalize (l.getD 3 0).toNat = b3
  generalize l.length = n
  unfold decodeN
  repeat' split
  all_goals simp
theorem rune4 : ∀ (n : Nat) (l : List UInt8), l.length ≤ n → ∀ v ∈ runes l, v.2.length ≤ 4
  | 0, l, h, v, hv => by
    have : l = [] := List.eq_nil_of_length_eq_zero (by omega)
    subst this; cases hv
  | n + 1, l, h, v, hv => by
    by_cases hl : l = []
    · subst hl; rw [runes_nil] at hv; cases hv
    · have h1 := nx_pos hl
      have h4 := nx4 hl
      rw [runes_cons hl] at hv
      rcases List.mem_cons.1 hv with rfl | hv
      · rw [List.length_take]; omega
      · exact rune4 n _ (by rw [List.length_drop]; omega) v hv
theorem byt4 : ∀ (vs : List Ru), (∀ v ∈ vs, v.2.length ≤ 4) → (byt vs).length ≤ 4 * vs.length
  | [], _ => by simp [byt]
  | v :: r, h => by
    have h1 := h v (by simp)
    have h2 := byt4 r (fun x hx => h x (by simp [hx]))
    rw [byt_cons, List.length_append, List.length_cons]; omega
theorem name_len {b : List UInt8} (h : nameS b = true) : b.length ≤ 96 := by
  unfold nameS at h
  simp only [Bool.and_eq_true, decide_eq_true_eq, beq_iff_eq] at h
  have h1 : spb b ≤ 4 * ((runes b).take (spn (runes b))).length := byt4 _ (fun v hv => rune4 _ b (Nat.le_refl _) v (List.mem_of_mem_take hv))
  rw [List.length_take] at h1
  omega
theorem num_len {b : List UInt8} (h : numB b = true) : b.length ≤ 10 ∧ 0 ≤ valB 0 b ∧ valB 0 b ≤ 1000000000 := by
  unfold numB at h
  simp only [Bool.and_eq_true, decide_eq_true_eq] at h
  have hv : ∀ (b : List UInt8) (n : Int), 0 ≤ n → b.all dB = true → 0 ≤ valB n b := fun b => by
    induction b with
    | nil => intro n hn _; exact hn
    | cons c r ih =>
      intro n hn hb
      simp only [List.all_cons, Bool.and_eq_true] at hb
      have hd : 48 ≤ c.toNat ∧ c.toNat ≤ 57 := of_decide_eq_true hb.1
      exact ih _ (by omega) hb.2
  refine ⟨?_, ?_, ?_⟩
  all_goals first | omega | exact hv b 0 (by omega) (by simp_all) | simp_all

section
variable {nb : List UInt8 → Int} {rsv : List UInt8 → Bool} {l : List Tk}
end

def fmX (x : Sx) : Bool := fmC x.1 x.2
/-- What the words are read as. -/
def rdC (l : List Tk) : Rd3 := psr (valB 0) rsvB l (7 * l.length + 6) 1 0 (-1)
/-- The expression that the words begin with, how many of them it is, or an error. -/
def takeC (l : List Tk) : Sx × Nat × Int := if 0 ≤ (rdC l).2.2 then (noX, (rdC l).2.2.toNat, 12) else if fmX (rdC l).1 = true then ((rdC l).1, (rdC l).2.1, 0) else (noX, 0, 13)
theorem aroP_len (c : Nat × List Pc) (m : Nat) : (txP (aroP c m)).length ≤ (txP c.2).length + 2 := by
  unfold aroP; split
  · rw [txP_cons, txP_app, List.length_append, List.length_append]
    show 1 + (_ + 1) ≤ _
    omega
  · omega
theorem op_len {s : List UInt8} (h : opB s) : s.length ≤ 2 := by
  rcases h with rfl | rfl | rfl | rfl | rfl | rfl | rfl | rfl | rfl <;> decide
theorem pcs_len : ∀ (d : Nat) (t : T d), Cl d t → rtT dcN d t → (txP (pcs dcN d t).2).length ≤ 100 * cnt d t
  | 0, t, _, _ => Empty.elim t
  | d + 1, t, hc, hr => by
    rcases hc.cases with ⟨n, rfl⟩ | ⟨s, rfl⟩ | ⟨k, p, hk, rfl, hp⟩ | ⟨s, p, q, rfl, hp, hq⟩ | rfl
    · have hn : numB (dcN n) = true := hr.1 rfl
      have := (num_len hn).1
      show (dcN n ++ []).length ≤ 100 * 1
      rw [List.append_nil]; omega
    · have hn : nameS s.data.toList = true := hr.2.1 rfl
      have := name_len hn
      show (s.data.toList ++ []).length ≤ 100 * 1
      rw [List.append_nil]; omega
    · have hrp : rtT dcN d p := by
        have h2 : ∀ z ∈ [fold (rtF dcN) d p], z := hr.2.2.2.2
        exact h2 (fold (rtF dcN) d p) List.mem_cons_self
      have ih := pcs_len d p hp hrp
      have ha := aroP_len (pcs dcN d p) 6
      have e : (txP (pcs dcN (d + 1) (mkT k 0 ⟨#[]⟩ [p] : T (d + 1))).2).length = (txP (aroP (pcs dcN d p) 6)).length + 1 := by rcases hk with rfl | rfl <;> rfl
      rw [e, cnt_mk]
      show _ ≤ 100 * (cnt d p + 0 + 1)
      omega
    · have h2 : ∀ z ∈ [fold (rtF dcN) d p, fold (rtF dcN) d q], z := hr.2.2.2.2
      have ho : s.data.toList.length ≤ 2 := op_len (hr.2.2.1 rfl : opB s.data.toList)
      have i1 := pcs_len d p hp (h2 (fold (rtF dcN) d p) List.mem_cons_self)
      have i2 := pcs_len d q hq (h2 (fold (rtF dcN) d q) (List.mem_cons_of_mem _ List.mem_cons_self))
      have a1 := aroP_len (pcs dcN d p) (if lv s.data.toList = 3 then 4 else lv s.data.toList)
      have a2 := aroP_len (pcs dcN d q) (lv s.data.toList + 1)
      have e : (pcs dcN (d + 1) (mkT 5 0 s [p, q] : T (d + 1))).2 = aroP (pcs dcN d p) (if lv s.data.toList = 3 then 4 else lv s.data.toList) ++ none :: some (3, s.data.toList) :: none :: aroP (pcs dcN d q) (lv s.data.toList + 1) := rfl
      rw [e, cnt_mk, txP_app, txP_cons, txP_cons, txP_cons, List.length_append, List.length_append, List.length_append, List.length_append]
      show _ + (1 + (s.data.toList.length + (1 + _))) ≤ 100 * (cnt d p + (cnt d q + 0) + 1)
      omega
    · have : (1 : Int) ≤ 0 ∧ (0 : Int) ≤ 5 := hr.2.2.2.1
      omega
theorem nd_cnt : ∀ (d : Nat) (t : T d), ndC d t = min (cnt d t) 41
  | 0, t => Empty.elim t
  | d + 1, t => by
    obtain ⟨k, n, s, ps, rfl⟩ := T.open t
    rw [ndC_mk, cnt_mk]
    have : ∀ l : List (T d), min ((l.map (ndC d)).sum + 1) 41 = min ((l.map (cnt d)).sum + 1) 41 := fun l => by
      induction l with
      | nil => rfl
      | cons p r ih =>
        have := nd_cnt d p
        simp only [List.map_cons, List.sum_cons]
        omega
    exact this ps
theorem fm_parts {d : Nat} {t : T d} (h : fmC d t = true) : cnt d t ≤ 40 ∧ sdC d t = true := by
  unfold fmC at h
  simp only [Bool.and_eq_true, decide_eq_true_eq] at h
  have := nd_cnt d t
  exact ⟨by omega, h.2⟩
/-- The text of an expression. -/
def txtC (d : Nat) (t : T d) : List UInt8 := txP (pcs dcN d t).2
end Go.Proofs.YtifgbioacknjpaaGreatDoor

/- What the program's levelOf and Reserved do. -/
namespace Go.Proofs.YtifgbioacknjpaaGreatDoor
open Go.RowKit Go.Lib
set_option linter.unusedSimpArgs false
set_option linter.unusedVariables false
attribute [local go_sem ↓] Go.wp_at_zero Go.wp_at_succ

set_option maxRecDepth 100000 in
set_option maxHeartbeats 2000000 in
theorem pLevel_any (s : ByteArray) (w : World) : Calls Tryz.prog 195 #[.string s] w fun e w' => e = .returned (.int .i64 (lv (bl s) : Int)) ∧ w = w' := by
  have hS : ∀ x, (s.toList == x) = (bl s == x) := fun x => by rw [ByteArray.toList_eq]
  obtain ⟨l, hl⟩ : ∃ l, bl s = l := ⟨_, rfl⟩
  rw [hl]
  simp only [hl] at hS
  clear hl
  have q0 : (s.toList == [124, 124]) = (l == [124, 124]) := hS _
  have q1 : (s.toList == [38, 38]) = (l == [38, 38]) := hS _
  have q2 : (s.toList == [60]) = (l == [60]) := hS _
  have q3 : (s.toList == [60, 61]) = (l == [60, 61]) := hS _
  have q4 : (s.toList == [61, 61]) = (l == [61, 61]) := hS _
  have q5 : (s.toList == [33, 61]) = (l == [33, 61]) := hS _
  have q6 : (s.toList == [43]) = (l == [43]) := hS _
  have q7 : (s.toList == [45]) = (l == [45]) := hS _
  have q8 : (s.toList == [42]) = (l == [42]) := hS _
  clear hS
  cases r0 : (l == [124, 124])
  case true => rw [r0] at q0; clear q1 q2 q3 q4 q5 q6 q7 q8; go_enter Tryz.func195, Tryz.ntmps195; go_wp2; go_ret; exact ⟨by rw [eq_of_beq r0]; rfl, rfl⟩
  rw [r0] at q0
  cases r1 : (l == [38, 38])
  case true => rw [r1] at q1; clear q2 q3 q4 q5 q6 q7 q8; go_enter Tryz.func195, Tryz.ntmps195; go_wp2; go_ret; exact ⟨by rw [eq_of_beq r1]; rfl, rfl⟩
  rw [r1] at q1
  cases r2 : (l == [60])
  case true => rw [r2] at q2; clear q3 q4 q5 q6 q7 q8; go_enter Tryz.func195, Tryz.ntmps195; go_wp2; go_ret; exact ⟨by rw [eq_of_beq r2]; rfl, rfl⟩
  rw [r2] at q2
  cases r3 : (l == [60, 61])
  case true => rw [r3] at q3; clear q4 q5 q6 q7 q8; go_enter Tryz.func195, Tryz.ntmps195; go_wp2; go_ret; exact ⟨by rw [eq_of_beq r3]; rfl, rfl⟩
  rw [r3] at q3
  cases r4 : (l == [61, 61])
  case true => rw [r4] at q4; clear q5 q6 q7 q8; go_enter Tryz.func195, Tryz.ntmps195; go_wp2; go_ret; exact ⟨by rw [eq_of_beq r4]; rfl, rfl⟩
  rw [r4] at q4
  cases r5 : (l == [33, 61])
  case true => rw [r5] at q5; clear q6 q7 q8; go_enter Tryz.func195, Tryz.ntmps195; go_wp2; go_ret; exact ⟨by rw [eq_of_beq r5]; rfl, rfl⟩
  rw [r5] at q5
  cases r6 : (l == [43])
  case true => rw [r6] at q6; clear q7 q8; go_enter Tryz.func195, Tryz.ntmps195; go_wp2; go_ret; exact ⟨by rw [eq_of_beq r6]; rfl, rfl⟩
  rw [r6] at q6
  cases r7 : (l == [45])
  case true => rw [r7] at q7; clear q8; go_enter Tryz.func195, Tryz.ntmps195; go_wp2; go_ret; exact ⟨by rw [eq_of_beq r7]; rfl, rfl⟩
  rw [r7] at q7
  cases r8 : (l == [42])
  case true => rw [r8] at q8; go_enter Tryz.func195, Tryz.ntmps195; go_wp2; go_ret; exact ⟨by rw [eq_of_beq r8]; rfl, rfl⟩
  rw [r8] at q8
  go_enter Tryz.func195, Tryz.ntmps195
  go_wp2
  go_ret
  have e : lv l = 0 := by simp [lv, beq_eq_false_iff_ne.1 r0, beq_eq_false_iff_ne.1 r1, beq_eq_false_iff_ne.1 r2, beq_eq_false_iff_ne.1 r3, beq_eq_false_iff_ne.1 r4, beq_eq_false_iff_ne.1 r5, beq_eq_false_iff_ne.1 r6, beq_eq_false_iff_ne.1 r7, beq_eq_false_iff_ne.1 r8]
  exact ⟨by rw [e]; rfl, rfl⟩
set_option maxRecDepth 100000 in
set_option maxHeartbeats 2000000 in
theorem pReserved_any (s : ByteArray) (w : World) : Calls Tryz.prog 73 #[.string s] w fun e w' => e = .returned (.bool (rsvB (bl s))) ∧ w = w' := by
  have hS : ∀ x, (s.toList == x) = (bl s == x) := fun x => by rw [ByteArray.toList_eq]
  obtain ⟨l, hl⟩ : ∃ l, bl s = l := ⟨_, rfl⟩
  rw [hl]
  simp only [hl] at hS
  clear hl
  have q0 : (s.toList == [99, 104, 97, 114, 116]) = (l == [99, 104, 97, 114, 116]) := hS _
  have q1 : (s.toList == [118, 97, 114]) = (l == [118, 97, 114]) := hS _
  have q2 : (s.toList == [115, 116, 97, 116, 101]) = (l == [115, 116, 97, 116, 101]) := hS _
  have q3 : (s.toList == [97, 108, 108]) = (l == [97, 108, 108]) := hS _
  have q4 : (s.toList == [101, 110, 100]) = (l == [101, 110, 100]) := hS _
  have q5 : (s.toList == [100, 111]) = (l == [100, 111]) := hS _
  have q6 : (s.toList == [117, 110, 100, 111]) = (l == [117, 110, 100, 111]) := hS _
  have q7 : (s.toList == [97, 116]) = (l == [97, 116]) := hS _
  have q8 : (s.toList == [114, 101, 116, 114, 105, 101, 115]) = (l == [114, 101, 116, 114, 105, 101, 115]) := hS _
  have q9 : (s.toList == [111, 110]) = (l == [111, 110]) := hS _
  have q10 : (s.toList == [105, 102]) = (l == [105, 102]) := hS _
  have q11 : (s.toList == [103, 111]) = (l == [103, 111]) := hS _
  have q12 : (s.toList == [115, 101, 116]) = (l == [115, 101, 116]) := hS _
  clear hS
  cases r0 : (l == [99, 104, 97, 114, 116])
  case true => rw [r0] at q0; clear q1 q2 q3 q4 q5 q6 q7 q8 q9 q10 q11 q12; go_enter Tryz.func73, Tryz.ntmps73; go_wp2; go_ret; exact ⟨by rw [eq_of_beq r0]; rfl, rfl⟩
  rw [r0] at q0
  cases r1 : (l == [118, 97, 114])
  case true => rw [r1] at q1; clear q2 q3 q4 q5 q6 q7 q8 q9 q10 q11 q12; go_enter Tryz.func73, Tryz.ntmps73; go_wp2; go_ret; exact ⟨by rw [eq_of_beq r1]; rfl, rfl⟩
  rw [r1] at q1
  cases r2 : (l == [115, 116, 97, 116, 101])
  case true => rw [r2] at q2; clear q3 q4 q5 q6 q7 q8 q9 q10 q11 q12; go_enter Tryz.func73, Tryz.ntmps73; go_wp2; go_ret; exact ⟨by rw [eq_of_beq r2]; rfl, rfl⟩
  rw [r2] at q2
  cases r3 : (l == [97, 108, 108])
  case true => rw [r3] at q3; clear q4 q5 q6 q7 q8 q9 q10 q11 q12; go_enter Tryz.func73, Tryz.ntmps73; go_wp2; go_ret; exact ⟨by rw [eq_of_beq r3]; rfl, rfl⟩
  rw [r3] at q3
  cases r4 : (l == [101, 110, 100])
  case true => rw [r4] at q4; clear q5 q6 q7 q8 q9 q10 q11 q12; go_enter Tryz.func73, Tryz.ntmps73; go_wp2; go_ret; exact ⟨by rw [eq_of_beq r4]; rfl, rfl⟩
  rw [r4] at q4
  cases r5 : (l == [100, 111])
  case true => rw [r5] at q5; clear q6 q7 q8 q9 q10 q11 q12; go_enter Tryz.func73, Tryz.ntmps73; go_wp2; go_ret; exact ⟨by rw [eq_of_beq r5]; rfl, rfl⟩
  rw [r5] at q5
  cases r6 : (l == [117, 110, 100, 111])
  case true => rw [r6] at q6; clear q7 q8 q9 q10 q11 q12; go_enter Tryz.func73, Tryz.ntmps73; go_wp2; go_ret; exact ⟨by rw [eq_of_beq r6]; rfl, rfl⟩
  rw [r6] at q6
  cases r7 : (l == [97, 116])
  case true => rw [r7] at q7; clear q8 q9 q10 q11 q12; go_enter Tryz.func73, Tryz.ntmps73; go_wp2; go_ret; exact ⟨by rw [eq_of_beq r7]; rfl, rfl⟩
  rw [r7] at q7
  cases r8 : (l == [114, 101, 116, 114, 105, 101, 115])
  case true => rw [r8] at q8; clear q9 q10 q11 q12; go_enter Tryz.func73, Tryz.ntmps73; go_wp2; go_ret; exact ⟨by rw [eq_of_beq r8]; rfl, rfl⟩
  rw [r8] at q8
  cases r9 : (l == [111, 110])
  case true => rw [r9] at q9; clear q10 q11 q12; go_enter Tryz.func73, Tryz.ntmps73; go_wp2; go_ret; exact ⟨by rw [eq_of_beq r9]; rfl, rfl⟩
  rw [r9] at q9
  cases r10 : (l == [105, 102])
  case true => rw [r10] at q10; clear q11 q12; go_enter Tryz.func73, Tryz.ntmps73; go_wp2; go_ret; exact ⟨by rw [eq_of_beq r10]; rfl, rfl⟩
  rw [r10] at q10
  cases r11 : (l == [103, 111])
  case true => rw [r11] at q11; clear q12; go_enter Tryz.func73, Tryz.ntmps73; go_wp2; go_ret; exact ⟨by rw [eq_of_beq r11]; rfl, rfl⟩
  rw [r11] at q11
  cases r12 : (l == [115, 101, 116])
  case true => rw [r12] at q12; go_enter Tryz.func73, Tryz.ntmps73; go_wp2; go_ret; exact ⟨by rw [eq_of_beq r12]; rfl, rfl⟩
  rw [r12] at q12
  go_enter Tryz.func73, Tryz.ntmps73
  go_wp2
  go_ret
  have e : rsvB l = false := by simp [rsvB, rsv13, beq_eq_false_iff_ne.1 r0, beq_eq_false_iff_ne.1 r1, beq_eq_false_iff_ne.1 r2, beq_eq_false_iff_ne.1 r3, beq_eq_false_iff_ne.1 r4, beq_eq_false_iff_ne.1 r5, beq_eq_false_iff_ne.1 r6, beq_eq_false_iff_ne.1 r7, beq_eq_false_iff_ne.1 r8, beq_eq_false_iff_ne.1 r9, beq_eq_false_iff_ne.1 r10, beq_eq_false_iff_ne.1 r11, beq_eq_false_iff_ne.1 r12]
  exact ⟨by rw [e]; rfl, rfl⟩
theorem RdS.at' {w : World} {v : Value} {ls : List ByteArray} (h : RdS w v ls) : ∃ a cap, v = .slice a ls.length cap ∧ ls.length ≤ maxLen ∧ ∀ (i : Nat) (hi : i < ls.length), ∃ g, a = some ⟨g, 0, none⟩ ∧ w.cell? ⟨g, i, none⟩ = some (.string ls[i]) := by
  rcases h.form with ⟨rfl, rfl⟩ | ⟨g, cap, rfl, h1, h2, h3⟩
  · exact ⟨none, 0, rfl, by simp [maxLen], fun i hi => by simp at hi⟩
  · exact ⟨_, _, rfl, by omega, fun i hi => ⟨g, rfl, h3 i hi⟩⟩
set_option maxRecDepth 100000 in
set_option maxHeartbeats 4000000 in
theorem idx_any {w : World} {v : Value} {ls : List ByteArray} (h : RdS w v ls) :
    Calls Tryz.prog 180 #[v, .func (.func 73) #[] #[]] w fun e w' => ∃ i : Int, e = .returned (.int .i64 i) ∧ decide (0 ≤ i) = ls.any (fun s => rsvB (bl s)) ∧ w' = w := by
  obtain ⟨a, cap, rfl, hm, hc⟩ := h.at'
  clear h
  unfold maxLen at hm
  obtain ⟨n, hn⟩ : ∃ n, ls.length = n := ⟨_, rfl⟩
  rw [hn] at hm ⊢
  go_enter Tryz.func180, Tryz.ntmps180
  go_wp2
  go_loopg [5, 8] n (fun gg _ s8 wr => ∃ kk : Nat, kk ≤ n ∧ n - kk ≤ gg ∧ s8 = .int .i64 (kk : Int) ∧ Hid (w = wr) ∧ Hid (∀ (j : Nat) (hj : j < ls.length), j < kk → rsvB (bl ls[j]) = false))
  case atStart => exact ⟨0, Nat.zero_le _, by omega, rfl, rfl, fun j _ hj => absurd hj (Nat.not_lt_zero _)⟩
  case round =>
    obtain ⟨kk, hkk, hg, rfl, hw, A⟩ := hrel
    obtain rfl : w = wr := hw
    by_cases hlt : kk < n
    · have hltz : (kk : Int) < (n : Int) := by omega
      obtain ⟨g, rfl, hcl⟩ := hc kk (by omega)
      have hcall := pReserved_any ls[kk] w
      obtain ⟨y, hy⟩ : ∃ y, ls[kk] = y := ⟨_, rfl⟩
      rw [hy] at hcl hcall
      cases hq : rsvB (bl y) with
      | true =>
        rw [hq] at hcall
        go_wp2_with (go_at_call 73; refine hcall.mono ?_; rintro e w' ⟨rfl, rfl⟩)
        go_ret
        refine ⟨_, rfl, ?_, rfl⟩
        rw [List.any_eq_true.2 ⟨y, hy ▸ List.getElem_mem _, hq⟩]
        simp
      | false =>
        rw [hq] at hcall
        go_wp2_with (go_at_call 73; refine hcall.mono ?_; rintro e w' ⟨rfl, rfl⟩)
        go_roundg (n - (kk + 1))
        case measure => omega
        case rel =>
          refine ⟨kk + 1, by omega, by omega, by go_num, rfl, (show Hid _ from fun j hj hj' => ?_)⟩
          by_cases e : j = kk
          · subst e; rw [hy]; exact hq
          · exact A j hj (by omega)
    · have hltz : ¬ (kk : Int) < (n : Int) := by omega
      go_wp2
      go_ret
      refine ⟨_, rfl, ?_, rfl⟩
      have : ls.any (fun s => rsvB (bl s)) = false := by
        rw [List.any_eq_false]
        intro x hx
        obtain ⟨j, hj, rfl⟩ := List.mem_iff_getElem.1 hx
        rw [A j hj (by omega)]; simp
      rw [this]; decide
set_option maxRecDepth 100000 in
set_option maxHeartbeats 4000000 in
theorem contains_any {w : World} {v : Value} {ls : List ByteArray} (h : RdS w v ls) :
    Calls Tryz.prog 163 #[v, .func (.func 73) #[] #[]] w fun e w' => e = .returned (.bool (ls.any (fun s => rsvB (bl s)))) ∧ w' = w := by
  have h1 := idx_any h
  obtain ⟨a, cap, rfl, hm, hc⟩ := h.at'
  clear h hc hm
  generalize ls.any (fun s => rsvB (bl s)) = z at h1 ⊢
  go_enter Tryz.func163, Tryz.ntmps163
  go_wp2_with (go_at_call 180; refine h1.mono ?_; rintro e w' ⟨i, rfl, hi, rfl⟩; have hi' : Hid (decide (0 ≤ i) = z) := hi; clear hi)
  go_ret
  have hi2 : decide (0 ≤ i) = z := hi'
  simp [← hi2]
end Go.Proofs.YtifgbioacknjpaaGreatDoor

/- Trees in memory. -/
namespace Go.Proofs.YtifgbioacknjpaaGreatDoor
open Go.RowKit
set_option linter.unusedSimpArgs false
set_option linter.unusedVariables false

theorem add_plain (b off i : Nat) : (⟨b, off, none⟩ : Addr).add i = ⟨b, off + i, none⟩ := by unfold Addr.add; split <;> simp_all

/-- The slice v reads as the list l, four cells an element. -/
def RdP {α : Type} (ok : Nat → Prop) (w : World) (R : α → Value → Prop) (l : List α) (v : Value) : Prop :=
  ∃ a cap, v = .slice a l.length cap ∧ l.length ≤ cap ∧ cap ≤ maxLen ∧ (a = none → l = []) ∧
    ∀ x, a = some x → ∀ (i : Nat) (h : i < l.length), ok x.block ∧ ∃ c0 c1 c2 c3, R l[i] (.agg #[c0, c1, c2, c3]) ∧ w.cell? (x.add (i * 4)) = some c0 ∧ w.cell? (x.add (i * 4 + 1)) = some c1 ∧ w.cell? (x.add (i * 4 + 2)) = some c2 ∧ w.cell? (x.add (i * 4 + 3)) = some c3
/-- The value v reads as the tree t. -/
def RdT (ok : Nat → Prop) (w : World) : (d : Nat) → T d → Value → Prop
  | 0, t, _ => Empty.elim t
  | d + 1, t, v => ∃ sl, v = .agg #[.int .i64 (show Int × Int × ByteArray × List (T d) from t).1, .int .i64 (show Int × Int × ByteArray × List (T d) from t).2.1, .string (show Int × Int × ByteArray × List (T d) from t).2.2.1, sl] ∧ RdP ok w (RdT ok w d) (show Int × Int × ByteArray × List (T d) from t).2.2.2 sl
theorem rdT_mk {ok : Nat → Prop} {w : World} {d : Nat} {k n : Int} {s : ByteArray} {ps : List (T d)} {v : Value} : RdT ok w (d + 1) (mkT k n s ps) v ↔ ∃ sl, v = .agg #[.int .i64 k, .int .i64 n, .string s, sl] ∧ RdP ok w (RdT ok w d) ps sl := Iff.rfl

theorem keep_cell {w w' : World} {p : Addr} {u : Value} (h : w'.heap[p.block]? = w.heap[p.block]?) (hc : w.cell? p = some u) : w'.cell? p = some u := by
  unfold World.cell? at hc ⊢
  rw [h]
  exact hc
theorem add_block (x : Addr) (i : Nat) : (x.add i).block = x.block := by unfold Addr.add; split <;> rfl
/-- What is read stays where its blocks stay. -/
theorem RdP.keep {α : Type} {ok ok' : Nat → Prop} {w w' : World} {R R' : α → Value → Prop} {l : List α} {v : Value} (h : RdP ok w R l v) (hR : ∀ x ∈ l, ∀ u, R x u → R' x u) (hk : ∀ b, ok b → b < w.heap.size → ok' b ∧ w'.heap[b]? = w.heap[b]?) : RdP ok' w' R' l v := by
  obtain ⟨a, cap, rfl, hc, hm, hn, hcell⟩ := h
  refine ⟨a, cap, rfl, hc, hm, hn, fun x hx i hi => ?_⟩
  obtain ⟨ho, c0, c1, c2, c3, h0, h1, h2, h3, h4⟩ := hcell x hx i hi
  have hb : x.block < w.heap.size := by
    have := World.block_lt_of_cell? w _ h1
    rw [add_block] at this
    exact this
  obtain ⟨ho', hs⟩ := hk _ ho hb
  have kk : ∀ j u, w.cell? (x.add j) = some u → w'.cell? (x.add j) = some u := fun j u hu => keep_cell (by rw [add_block]; exact hs) hu
  exact ⟨ho', c0, c1, c2, c3, hR _ (List.getElem_mem hi) _ h0, kk _ _ h1, kk _ _ h2, kk _ _ h3, kk _ _ h4⟩
theorem RdT.keep {ok ok' : Nat → Prop} {w w' : World} (hk : ∀ b, ok b → b < w.heap.size → ok' b ∧ w'.heap[b]? = w.heap[b]?) : ∀ {d : Nat} {t : T d} {v : Value}, RdT ok w d t v → RdT ok' w' d t v
  | 0, t, v, h => Empty.elim t
  | d + 1, t, v, h => by
    obtain ⟨sl, hv, hp⟩ := h
    exact ⟨sl, hv, hp.keep (fun x _ u hu => RdT.keep hk hu) hk⟩
theorem RdT.below {ok : Nat → Prop} {w w' : World} {B : Nat} (hb : Below B w w') (hB : w.heap.size ≤ B) {d : Nat} {t : T d} {v : Value} (h : RdT ok w d t v) : RdT ok w' d t v :=
  RdT.keep (fun b ho hl => ⟨ho, hb.block b (by omega)⟩) h
theorem RdP.below {ok : Nat → Prop} {w w' : World} {d : Nat} {l : List (T d)} {v : Value} {B : Nat} (h : RdP ok w (RdT ok w d) l v) (hb : Below B w w') (hB : w.heap.size ≤ B) : RdP ok w' (RdT ok w' d) l v :=
  h.keep (fun x _ u hu => RdT.below hb hB hu) (fun b ho hl => ⟨ho, hb.block b (by omega)⟩)
/-- Where its elements lie. -/
theorem RdP.form {α : Type} {ok : Nat → Prop} {w : World} {R : α → Value → Prop} {l : List α} {v : Value} (h : RdP ok w R l v) : ∃ a cap, v = .slice a l.length cap ∧ l.length ≤ cap ∧ cap ≤ 9223372036854775807 ∧
    ∀ (i : Nat) (hi : i < l.length), ∃ b off c0 c1 c2 c3, a = some ⟨b, off, none⟩ ∧ b < w.heap.size ∧ R l[i] (.agg #[c0, c1, c2, c3]) ∧ w.cell? ⟨b, off + i * 4, none⟩ = some c0 ∧ w.cell? ⟨b, off + i * 4 + 1, none⟩ = some c1 ∧ w.cell? ⟨b, off + i * 4 + 2, none⟩ = some c2 ∧ w.cell? ⟨b, off + i * 4 + 3, none⟩ = some c3 := by
  obtain ⟨a, cap, rfl, hc, hm, hn, hcell⟩ := h
  refine ⟨a, cap, rfl, hc, by unfold maxLen at hm; omega, fun i hi => ?_⟩
  cases a with
  | none => have := hn rfl; subst this; simp at hi
  | some x =>
    obtain ⟨b, off, spot⟩ := x
    obtain ⟨_, c0, c1, c2, c3, h0, h1, h2, h3, h4⟩ := hcell _ rfl i hi
    obtain ⟨_, _, _, _, _, _, z1, _⟩ := hcell _ rfl 0 (by omega)
    have hspot : spot = none := by simpa [Addr.add] using World.cell?_spot z1
    subst hspot
    rw [add_plain] at h1 h2 h3 h4
    exact ⟨b, off, c0, c1, c2, c3, rfl, World.block_lt_of_cell? w _ h1, h0, h1, h2, h3, h4⟩

/-- A block of four cells, read alone. -/
def At4 (w : World) (X : Nat) (a b c e : Value) : Prop := w.cell? ⟨X, 0, none⟩ = some a ∧ w.cell? ⟨X, 1, none⟩ = some b ∧ w.cell? ⟨X, 2, none⟩ = some c ∧ w.cell? ⟨X, 3, none⟩ = some e
theorem At4.keepB {w w' : World} {X B : Nat} {a b c e : Value} (h : At4 w X a b c e) (hb : Below B w w') (hX : X < B) : At4 w' X a b c e := by
  refine ⟨?_, ?_, ?_, ?_⟩
  · rw [hb.cell (p := ⟨X, 0, none⟩) hX]; exact h.1
  · rw [hb.cell (p := ⟨X, 1, none⟩) hX]; exact h.2.1
  · rw [hb.cell (p := ⟨X, 2, none⟩) hX]; exact h.2.2.1
  · rw [hb.cell (p := ⟨X, 3, none⟩) hX]; exact h.2.2.2
theorem At4.new (w : World) (a b c e : Value) (T : TypeId) : At4 (w.alloc (.cells #[a, b, c, e] T)) w.heap.size a b c e := ⟨by simp, by simp, by simp, by simp⟩

/-- The expression of a tree. -/
def exV : (d : Nat) → T d → Value := fold (fun k n s l =>
  if k = 1 then .iface 155 (.agg #[.int .i64 n]) else if k = 2 then .iface 157 (.agg #[.string s]) else if k = 3 then .iface 159 (.agg #[l.getD 0 .nilIface]) else if k = 4 then .iface 160 (.agg #[l.getD 0 .nilIface])
  else if k = 5 then .iface 162 (.agg #[.string s, l.getD 0 .nilIface, l.getD 1 .nilIface]) else .nilIface)
def exP {d : Nat} (ps : List (T d)) (i : Nat) : Value := (ps.map (exV d)).getD i .nilIface
theorem exV_mk {d : Nat} (k n : Int) (s : ByteArray) (ps : List (T d)) : exV (d + 1) (mkT k n s ps) =
    if k = 1 then .iface 155 (.agg #[.int .i64 n]) else if k = 2 then .iface 157 (.agg #[.string s]) else if k = 3 then .iface 159 (.agg #[exP ps 0]) else if k = 4 then .iface 160 (.agg #[exP ps 0])
    else if k = 5 then .iface 162 (.agg #[.string s, exP ps 0, exP ps 1]) else .nilIface := rfl
theorem exV_form : ∀ (d : Nat) (t : T d), exV d t = .nilIface ∨ ∃ u x, exV d t = .iface u x
  | 0, t => Empty.elim t
  | d + 1, t => by
    obtain ⟨k, n, s, ps, rfl⟩ := T.open t
    rw [exV_mk]
    repeat' split
    all_goals first | exact .inl rfl | exact .inr ⟨_, _, rfl⟩
theorem exP_form {d : Nat} (ps : List (T d)) (i : Nat) : exP ps i = .nilIface ∨ ∃ u x, exP ps i = .iface u x := by
  unfold exP
  rw [List.getD_eq_getElem?_getD, List.getElem?_map]
  cases ps[i]? with
  | none => exact .inl rfl
  | some p => exact exV_form d p
end Go.Proofs.YtifgbioacknjpaaGreatDoor
