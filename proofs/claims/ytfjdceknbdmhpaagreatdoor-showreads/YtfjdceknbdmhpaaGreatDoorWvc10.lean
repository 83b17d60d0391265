import Derived.Test.YtfjdceknbdmhpaaGreatDoorWvc04
import Derived.Test.YtfjdceknbdmhpaaGreatDoorWvc09
import Derived.Test.YtfjdceknbdmhpaaGreatDoorWvc06
import Derived.Laws.MakeOwn
/- Charts, and how they are read of words, as the document's reader does. Math alone. -/
namespace Go.Proofs.YtfjdceknbdmhpaaGreatDoor
open Go.RowKit Go.Lib
set_option linter.unusedVariables false
abbrev Pl:=Int × Int
/-- An on: event, guard (is there one, and which), target, sets, place. -/
abbrev OnC:=List UInt8 × (Bool × Sx) × List UInt8 × List (List UInt8 × Sx) × Pl
/-- A state but for what lies in it: name, place, all, end, do, undo, where, retries, ons. -/
abbrev HdC:=(List UInt8 × Pl) × (Bool × Bool) × (List UInt8 × List UInt8) × (Int × Int) × List OnC
/-- States that lie less than d deep in one another. -/
def St:Nat→Type
 | 0=>Empty
 | d+1=>HdC × List (St d)
/-- The reader: the words that are left, the place of the first error, the error. -/
abbrev RsC:=List Wd × Pl × Int
def wPl (w:Wd):Pl:=(w.2.2.1,w.2.2.2)
section
variable (fin:Pl)
def hereR (r:RsC):Pl:=match r.1 with | []=>fin | w :: _=>wPl w
def failC (e:Int) (p:Pl) (r:RsC):RsC:=if r.2.2=0 then (r.1,p,e) else r
def isC (s:List UInt8) (r:RsC):Bool:=decide (r.2.2=0) && (match r.1 with | []=>false | w :: _=>decide ((tkW w).2=s))
def takeR (s:List UInt8) (r:RsC):RsC:=if isC s r=true then (r.1.tail,r.2) else failC 12 (hereR fin r) r
/-- Is it a name that is not reserved? -/
def plainB (s:List UInt8):Bool:=nameS s && !rsvB s
def nameR (r:RsC):(List UInt8 × Pl) × RsC:=match r.2.2=0,r.1 with
 | _,[]=>(([],(0,0)),failC 12 (hereR fin r) r)
 | _,w :: l=>if r.2.2=0∧plainB (tkW w).2=true then (((tkW w).2,wPl w),(l,r.2)) else (([],(0,0)),failC 12 (hereR fin r) r)
def numR (r:RsC):Int × RsC:=match r.1 with
 | []=>(0,failC 12 (hereR fin r) r)
 | w :: l=>if r.2.2=0∧w.1=2 then (valB 0 (tkW w).2,(l,r.2)) else (0,failC 12 (hereR fin r) r)
def exprR (r:RsC):Sx × RsC:=if r.2.2≠0 then (noX,r) else
 if (takeC (r.1.map tkW)).2.2=0 then ((takeC (r.1.map tkW)).1,(r.1.drop (takeC (r.1.map tkW)).2.1,r.2)) else
 if (takeC (r.1.map tkW)).2.2=13 then ((takeC (r.1.map tkW)).1,failC 13 (hereR fin r) r) else
 ((takeC (r.1.map tkW)).1,failC (takeC (r.1.map tkW)).2.2 (hereR fin (r.1.drop (takeC (r.1.map tkW)).2.1,r.2)) (r.1.drop (takeC (r.1.map tkW)).2.1,r.2))
def wOn:List UInt8:=[111,110]
def wIf:List UInt8:=[105,102]
def wGo:List UInt8:=[103,111]
def wSet:List UInt8:=[115,101,116]
def wAll:List UInt8:=[97,108,108]
def wEnd:List UInt8:=[101,110,100]
def wDo:List UInt8:=[100,111]
def wUndo:List UInt8:=[117,110,100,111]
def wAt:List UInt8:=[97,116]
def wRetries:List UInt8:=[114,101,116,114,105,101,115]
def wState:List UInt8:=[115,116,97,116,101]
def wChart:List UInt8:=[99,104,97,114,116]
def wVar:List UInt8:=[118,97,114]
/-- The sets behind an on; g bounds how many. -/
def setsR:Nat→List (List UInt8 × Sx)→RsC→List (List UInt8 × Sx) × RsC
 | 0,acc,r=>(acc,r)
 | g+1,acc,r=>if isC wSet r=true then
   let a:=nameR fin (takeR fin wSet r)
   let b:=exprR fin (takeR fin [61] a.2)
   setsR g (acc++[(a.1.1,b.1)]) b.2
  else (acc,r)
def onR (r:RsC):OnC × RsC:=
 let a:=nameR fin (takeR fin wOn r)
 let g:(Bool × Sx) × RsC:=if isC wIf a.2=true then ((fun x=>((true,x.1),x.2)) (exprR fin (takeR fin wIf a.2))) else ((false,noX),a.2)
 let t:=nameR fin (takeR fin wGo g.2)
 let s:=setsR fin (t.2.1.length+1) [] t.2
 ((a.1.1,g.1,t.1.1,s.1,a.1.2),s.2)
/-- What kind of state it is: all, end, do .. undo .. at .. retries, or nothing of these. -/
def kindR (r:RsC):((Bool × Bool) × (List UInt8 × List UInt8) × (Int × Int)) × RsC:=
 if isC wAll r=true then (((true,false),([],[]),(0,0)),takeR fin wAll r) else
 if isC wEnd r=true then (((false,true),([],[]),(0,0)),takeR fin wEnd r) else
 if isC wDo r=true then
  let a:=nameR fin (takeR fin wDo r)
  let b:=nameR fin (takeR fin wUndo a.2)
  let c:=numR fin (takeR fin wAt b.2)
  let e:=numR fin (takeR fin wRetries c.2)
  (((false,false),(a.1.1,b.1.1),(c.1,e.1)),e.2)
 else (((false,false),([],[]),(0,0)),r)
/-- The ons and states within a state, of a reader of inner states; g bounds how many. -/
def inR {α:Type} (inner:RsC→α × RsC):Nat→List OnC→List α→RsC→(List OnC × List α) × RsC
 | 0,os,ss,r=>((os,ss),r)
 | g+1,os,ss,r=>if r.2.2=0∧isC [125] r=false then
   if isC wOn r=true then inR inner g (os++[(onR fin r).1]) ss (onR fin r).2
   else inR inner g os (ss++[(inner r).1]) (inner r).2
  else ((os,ss),r)
/-- A state, k below the deepest that may be: at 0 all is refused. -/
def stR:(k:Nat)→RsC→St (k+1) × RsC
 | 0,r=>(((([],(0,0)),(false,false),([],[]),(0,0),[]),[]),failC (if isC wState r=true then 13 else 12) (hereR fin r) r)
 | k+1,r=>
  let a:=nameR fin (takeR fin wState r)
  let b:=kindR fin (takeR fin [123] a.2)
  let c:=inR fin (stR k) (b.2.1.length+1) [] [] b.2
  (((a.1,b.1.1,b.1.2.1,b.1.2.2,c.1.1),c.1.2),takeR fin [125] c.2)
/-- The variables; g bounds how many. -/
def varsR:Nat→List (List UInt8 × Int × Pl)→RsC→List (List UInt8 × Int × Pl) × RsC
 | 0,acc,r=>(acc,r)
 | g+1,acc,r=>if isC wVar r=true then
   let a:=nameR fin (takeR fin wVar r)
   let b:=takeR fin [61] a.2
   let n:=if isC [45] b=true then (fun x=>(-x.1,x.2)) (numR fin (takeR fin [45] b)) else numR fin b
   varsR g (acc++[(a.1.1,n.1,a.1.2)]) n.2
  else (acc,r)
def stsR:Nat→List (St 7)→RsC→List (St 7) × RsC
 | 0,acc,r=>(acc,r)
 | g+1,acc,r=>if r.2.2=0∧isC [125] r=false then stsR g (acc++[(stR fin 6 r).1]) (stR fin 6 r).2 else (acc,r)
end
/-- A chart: name, place, version, variables, states. -/
abbrev ChC:=(List UInt8 × Pl) × Int × List (List UInt8 × Int × Pl) × List (St 7)
def noC:ChC:=(([],(0,0)),0,[],[])
/-- The chart of words, or an error at a place. -/
def chR (fin:Pl) (ws:List Wd):ChC × Pl × Int:=
 let a:=nameR fin (takeR fin wChart (ws,(0,0),0))
 let n:=numR fin a.2
 let b:=takeR fin [123] n.2
 let v:=varsR fin (b.1.length+1) [] b
 let s:=stsR fin (v.2.1.length+1) [] v.2
 let e:=takeR fin [125] s.2
 let z:=if e.2.2=0∧e.1≠[] then failC 12 (hereR fin e) e else e
 if z.2.2=0 then ((a.1,n.1,v.1,s.1),(0,0),0) else (noC,z.2.1,z.2.2)
/-- The place behind a text. -/
def endP:List Ru→Int→Int→Pl
 | [],ln,co=>(ln,co)
 | u :: r,ln,co=>if u.1=10 then endP r (ln+1) 1 else endP r ln (co+1)
/-- The chart of a text. -/
def readC (s:List UInt8):ChC × Pl × Int:=
 if (wordsS s).2.2≠0 then (noC,(wordsS s).2.1,(wordsS s).2.2) else chR (endP (runes s) 1 1) (wordsS s).1
/-- Reading takes words away, or has an error. -/
theorem failC_len (e:Int) (p:Pl) (r:RsC):(failC e p r).1=r.1:=by unfold failC;split <;> rfl
theorem failC_bad {e:Int} (he:e≠0) (p:Pl) (r:RsC):(failC e p r).2.2≠0:=by
 unfold failC
 split
 ·exact he
 ·rename_i h;exact h
theorem takeR_len (fin:Pl) (s:List UInt8) (r:RsC):(takeR fin s r).1.length≤r.1.length:=by
 unfold takeR
 split
 ·rw [List.length_tail];omega
 ·rw [failC_len];exact Nat.le_refl _
theorem takeR_less (fin:Pl) {s:List UInt8} {r:RsC} (h:isC s r=true):(takeR fin s r).1.length < r.1.length:=by
 unfold takeR
 rw [if_pos h]
 unfold isC at h
 cases hr:r.1 with
 | nil=>rw [hr] at h;simp at h
 | cons w l=>simp
theorem nameR_len (fin:Pl) (r:RsC):(nameR fin r).2.1.length≤r.1.length:=by
 unfold nameR
 cases hr:r.1 with
 | nil=>simp only [failC_len,hr];exact Nat.le_refl _
 | cons w l=>
  simp only
  split
  ·simp
  ·simp only [failC_len,hr];exact Nat.le_refl _
theorem numR_len (fin:Pl) (r:RsC):(numR fin r).2.1.length≤r.1.length:=by
 unfold numR
 cases hr:r.1 with
 | nil=>simp only [failC_len,hr];exact Nat.le_refl _
 | cons w l=>
  simp only
  split
  ·simp
  ·simp only [failC_len,hr];exact Nat.le_refl _
theorem exprR_len (fin:Pl) (r:RsC):(exprR fin r).2.1.length≤r.1.length:=by
 unfold exprR
 split
 ·exact Nat.le_refl _
 ·split
  ·simp
  ·split
   ·simp only [failC_len];exact Nat.le_refl _
   ·simp only [failC_len,List.length_drop];omega
/-- No words more; without an error behind it there was none ahead. -/
def Goes (r r':RsC):Prop:=r'.1.length≤r.1.length∧(r'.2.2=0→r.2.2=0)
theorem Goes.refl (r:RsC):Goes r r:=⟨Nat.le_refl _,id⟩
theorem Goes.trans {a b c:RsC} (h:Goes a b) (k:Goes b c):Goes a c:=⟨Nat.le_trans k.1 h.1,fun e=>h.2 (k.2 e)⟩
theorem goes_fail (e:Int) (p:Pl) (r:RsC):Goes r (failC e p r):=by
 refine ⟨by rw [failC_len];exact Nat.le_refl _,fun h=>?_⟩
 unfold failC at h
 split at h
 ·assumption
 ·exact h
theorem isC_ok {s:List UInt8} {r:RsC} (h:isC s r=true):r.2.2=0:=by
 unfold isC at h
 simp only [Bool.and_eq_true,decide_eq_true_eq] at h
 exact h.1
theorem goes_take (fin:Pl) (s:List UInt8) (r:RsC):Goes r (takeR fin s r):=by
 by_cases h:isC s r=true
 ·exact ⟨takeR_len fin s r,fun _=>isC_ok h⟩
 ·unfold takeR;rw [if_neg h];exact goes_fail _ _ _
theorem take_ok {fin:Pl} {s:List UInt8} {r:RsC} (h:(takeR fin s r).2.2=0):isC s r=true:=by
 by_cases hi:isC s r=true
 ·exact hi
 ·unfold takeR at h
  rw [if_neg hi] at h
  exact absurd h (failC_bad (by decide) _ _)
theorem goes_name (fin:Pl) (r:RsC):Goes r (nameR fin r).2:=by
 refine ⟨nameR_len fin r,?_⟩
 unfold nameR
 cases hr:r.1 with
 | nil=>exact (goes_fail _ _ _).2
 | cons w l=>
  simp only
  split
  ·rename_i h;exact fun _=>h.1
  ·exact (goes_fail _ _ _).2
theorem goes_num (fin:Pl) (r:RsC):Goes r (numR fin r).2:=by
 refine ⟨numR_len fin r,?_⟩
 unfold numR
 cases hr:r.1 with
 | nil=>exact (goes_fail _ _ _).2
 | cons w l=>
  simp only
  split
  ·rename_i h;exact fun _=>h.1
  ·exact (goes_fail _ _ _).2
theorem goes_expr (fin:Pl) (r:RsC):Goes r (exprR fin r).2:=by
 refine ⟨exprR_len fin r,?_⟩
 unfold exprR
 split
 ·exact id
 ·rename_i h
  exact fun _=>by simpa using h
theorem goes_sets (fin:Pl):∀ (g:Nat) (acc:List (List UInt8 × Sx)) (r:RsC),Goes r (setsR fin g acc r).2
 | 0,acc,r=>Goes.refl r
 | g+1,acc,r=>by
  unfold setsR
  split
  ·exact ((goes_take fin wSet r).trans ((goes_name fin _).trans ((goes_take fin [61] _).trans (goes_expr fin _)))).trans (goes_sets fin g _ _)
  ·exact Goes.refl r
/-- Behind the word on. -/
theorem goes_on1 (fin:Pl) (r:RsC):Goes (takeR fin wOn r) (onR fin r).2:=by
 have h1:Goes (takeR fin wOn r) (nameR fin (takeR fin wOn r)).2:=goes_name fin _
 have h2:Goes (nameR fin (takeR fin wOn r)).2 (if isC wIf (nameR fin (takeR fin wOn r)).2=true then ((fun x=>((true,x.1),x.2)) (exprR fin (takeR fin wIf (nameR fin (takeR fin wOn r)).2)):(Bool × Sx) × RsC) else ((false,noX),(nameR fin (takeR fin wOn r)).2)).2:=by
  split
  ·exact (goes_take fin wIf _).trans (goes_expr fin _)
  ·exact Goes.refl _
 exact h1.trans (h2.trans ((goes_take fin wGo _).trans ((goes_name fin _).trans (goes_sets fin _ _ _))))
theorem goes_on (fin:Pl) (r:RsC):Goes r (onR fin r).2:=(goes_take fin wOn r).trans (goes_on1 fin r)
theorem on_less {fin:Pl} {r:RsC} (h:isC wOn r=true):(onR fin r).2.1.length < r.1.length:=Nat.lt_of_le_of_lt (goes_on1 fin r).1 (takeR_less fin h)
theorem goes_kind (fin:Pl) (r:RsC):Goes r (kindR fin r).2:=by
 unfold kindR
 split
 ·exact goes_take fin _ r
 ·split
  ·exact goes_take fin _ r
  ·split
   ·exact (goes_take fin wDo r).trans ((goes_name fin _).trans ((goes_take fin wUndo _).trans ((goes_name fin _).trans ((goes_take fin wAt _).trans ((goes_num fin _).trans ((goes_take fin wRetries _).trans (goes_num fin _)))))))
   ·exact Goes.refl r
theorem goes_in {α:Type} (fin:Pl) (inner:RsC→α × RsC) (hi:∀ r,Goes r (inner r).2):∀ (g:Nat) (os:List OnC) (ss:List α) (r:RsC),Goes r (inR fin inner g os ss r).2
 | 0,os,ss,r=>Goes.refl r
 | g+1,os,ss,r=>by
  unfold inR
  split
  ·split
   ·exact (goes_on fin r).trans (goes_in fin inner hi g _ _ _)
   ·exact (hi r).trans (goes_in fin inner hi g _ _ _)
  ·exact Goes.refl r
/-- Behind the word state. -/
theorem goes_st:∀ (fin:Pl) (k:Nat) (r:RsC),Goes r (stR fin k r).2∧((stR fin k r).2.2.2=0→(stR fin k r).2.1.length < r.1.length)
 | fin,0,r=>by
  refine ⟨goes_fail _ _ r,fun h=>?_⟩
  refine absurd h (failC_bad ?_ _ r)
  split <;> decide
 | fin,k+1,r=>by
  have h1:Goes (takeR fin wState r) (stR fin (k+1) r).2:=
   (goes_name fin _).trans ((goes_take fin [123] _).trans ((goes_kind fin _).trans ((goes_in fin (stR fin k) (fun r=>(goes_st fin k r).1) _ _ _ _).trans (goes_take fin [125] _))))
  exact ⟨(goes_take fin wState r).trans h1,fun h=>Nat.lt_of_le_of_lt h1.1 (takeR_less fin (take_ok (h1.2 h)))⟩
theorem goes_vars (fin:Pl):∀ (g:Nat) (acc:List (List UInt8 × Int × Pl)) (r:RsC),Goes r (varsR fin g acc r).2
 | 0,acc,r=>Goes.refl r
 | g+1,acc,r=>by
  unfold varsR
  split
  ·refine Goes.trans ((goes_take fin wVar r).trans ((goes_name fin _).trans (goes_take fin [61] _))) (Goes.trans ?_ (goes_vars fin g _ _))
   split
   ·exact (goes_take fin [45] _).trans (goes_num fin _)
   ·exact goes_num fin _
  ·exact Goes.refl r
section
variable (fin:Pl)
/-- The ons and states within a state, as the program reads them. -/
def inP {α:Type} (inner:RsC→α × RsC):Nat→List OnC→List α→RsC→(List OnC × List α) × RsC
 | 0,os,ss,r=>((os,ss),r)
 | g+1,os,ss,r=>if isC wOn r=true then inP inner g (os++[(onR fin r).1]) ss (onR fin r).2
  else if isC wState r=true then inP inner g os (ss++[(inner r).1]) (inner r).2
  else ((os,ss),r)
def zHd:HdC:=(([],(0,0)),(false,false),([],[]),(0,0),[])
/-- A state, k below the deepest that may be. -/
def stP:(k:Nat)→RsC→St (k+1) × RsC
 | 0,r=>((zHd,[]),failC 13 (hereR fin r) r)
 | k+1,r=>
  let a:=nameR fin (takeR fin wState r)
  let b:=kindR fin (takeR fin [123] a.2)
  let c:=inP fin (stP k) (b.2.1.length+1) [] [] b.2
  (((a.1,b.1.1,b.1.2.1,b.1.2.2,c.1.1),c.1.2),takeR fin [125] c.2)
def stsP:Nat→List (St 7)→RsC→List (St 7) × RsC
 | 0,acc,r=>(acc,r)
 | g+1,acc,r=>if isC wState r=true then stsP g (acc++[(stP fin 6 r).1]) (stP fin 6 r).2 else (acc,r)
end
/-- Behind an error nothing is read. -/
theorem is_err {r:RsC} (h:r.2.2≠0) (s:List UInt8):isC s r=false:=by unfold isC;rw [decide_eq_false h];rfl
theorem fail_err {r:RsC} (h:r.2.2≠0) (e:Int) (p:Pl):failC e p r=r:=by unfold failC;rw [if_neg h]
theorem take_err {r:RsC} (h:r.2.2≠0) (fin:Pl) (s:List UInt8):takeR fin s r=r:=by
 unfold takeR
 rw [is_err h,if_neg (by decide),fail_err h]
theorem name_err {r:RsC} (h:r.2.2≠0) (fin:Pl):nameR fin r=(([],(0,0)),r):=by
 unfold nameR
 cases hr:r.1 with
 | nil=>simp only;rw [fail_err h]
 | cons w l=>simp only;rw [if_neg (fun e=>h e.1),fail_err h]
theorem kind_err {r:RsC} (h:r.2.2≠0) (fin:Pl):kindR fin r=(((false,false),([],[]),(0,0)),r):=by
 unfold kindR
 rw [is_err h,is_err h,is_err h,if_neg (by decide),if_neg (by decide),if_neg (by decide)]
theorem in_err {α:Type} {r:RsC} (h:r.2.2≠0) (fin:Pl) (inner:RsC→α × RsC):∀ (g:Nat) (os:List OnC) (ss:List α),inR fin inner g os ss r=((os,ss),r)
 | 0,os,ss=>rfl
 | g+1,os,ss=>by unfold inR;rw [if_neg (fun e=>h e.1)]
theorem inP_err {α:Type} {r:RsC} (h:r.2.2≠0) (fin:Pl) (inner:RsC→α × RsC):∀ (g:Nat) (os:List OnC) (ss:List α),inP fin inner g os ss r=((os,ss),r)
 | 0,os,ss=>rfl
 | g+1,os,ss=>by unfold inP;rw [is_err h,is_err h,if_neg (by decide),if_neg (by decide)]
theorem sts_err {r:RsC} (h:r.2.2≠0) (fin:Pl):∀ (g:Nat) (acc:List (St 7)),stsR fin g acc r=(acc,r)
 | 0,acc=>rfl
 | g+1,acc=>by unfold stsR;rw [if_neg (fun e=>h e.1)]
theorem stsP_err {r:RsC} (h:r.2.2≠0) (fin:Pl):∀ (g:Nat) (acc:List (St 7)),stsP fin g acc r=(acc,r)
 | 0,acc=>rfl
 | g+1,acc=>by unfold stsP;rw [is_err h,if_neg (by decide)]
theorem take_not {r:RsC} {fin:Pl} {s:List UInt8} (h:isC s r=false):takeR fin s r=failC 12 (hereR fin r) r:=by
 unfold takeR;rw [h,if_neg (by decide)]
/-- Where no state begins the document's reader of states has an error. -/
theorem st_not {r:RsC} (fin:Pl) (h0:r.2.2=0) (h:isC wState r=false):∀ k,(stR fin k r).2=failC 12 (hereR fin r) r
 | 0=>by unfold stR;rw [h,if_neg (by decide)]
 | k+1=>by
  have e:(failC 12 (hereR fin r) r).2.2≠0:=failC_bad (by decide) _ _
  unfold stR
  simp only [take_not h]
  rw [name_err e]
  simp only
  rw [take_err e,kind_err e]
  simp only
  rw [in_err e,take_err e]
theorem is_one {r:RsC} {s t:List UInt8} (h:isC s r=true) (hne:s≠t):isC t r=false:=by
 unfold isC at h ⊢
 cases hr:r.1 with
 | nil=>rw [hr] at h;simp at h
 | cons w l=>
  rw [hr] at h
  simp only [Bool.and_eq_true,decide_eq_true_eq] at h
  simp only [h.2,decide_eq_false hne,Bool.and_false]
theorem in_eq {α:Type} (fin:Pl) (i1 i2:RsC→α × RsC) (hi:∀ r,isC wState r=true→(i2 r).2=(i1 r).2∧((i1 r).2.2.2=0→(i2 r).1=(i1 r).1)) (hn:∀ r:RsC,r.2.2=0→isC wState r=false→(i1 r).2=failC 12 (hereR fin r) r) :
  ∀ (g:Nat) (os:List OnC) (ss:List α) (r:RsC),takeR fin [125] (inP fin i2 g os ss r).2=takeR fin [125] (inR fin i1 g os ss r).2∧((takeR fin [125] (inR fin i1 g os ss r).2).2.2=0→(inP fin i2 g os ss r).1=(inR fin i1 g os ss r).1)
 | 0,os,ss,r=>⟨rfl,fun _=>rfl⟩
 | g+1,os,ss,r=>by
  by_cases hz:r.2.2≠0
  ·have h0:=hz
   rw [in_err h0,inP_err h0];exact ⟨rfl,fun _=>rfl⟩
  have h0:r.2.2=0:=Decidable.not_not.1 hz
  unfold inP inR
  by_cases h1:isC [125] r=true
  ·rw [is_one h1 (t:=wOn) (by decide),is_one h1 (t:=wState) (by decide),if_neg (by decide),if_neg (by decide),if_neg (by rw [h1];simp)]
   exact ⟨rfl,fun _=>rfl⟩
  have h1':isC [125] r=false:=by simpa using h1
  rw [if_pos (⟨h0,h1'⟩:r.2.2=0∧isC [125] r=false)]
  by_cases h2:isC wOn r=true
  ·rw [if_pos h2,if_pos h2]
   exact in_eq fin i1 i2 hi hn g _ _ _
  rw [if_neg h2,if_neg h2]
  by_cases h3:isC wState r=true
  ·rw [if_pos h3]
   obtain ⟨e1,e2⟩:=hi r h3
   rw [e1]
   by_cases h4:(i1 r).2.2.2=0
   ·rw [e2 h4]
    exact in_eq fin i1 i2 hi hn g _ _ _
   ·rw [in_err h4,inP_err h4]
    refine ⟨rfl,fun h=>?_⟩
    rw [take_err h4] at h
    exact absurd h h4
  ·rw [if_neg h3]
   have h3':isC wState r=false:=by simpa using h3
   have e:=hn r h0 h3'
   have eb:(failC 12 (hereR fin r) r).2.2≠0:=failC_bad (by decide) _ _
   rw [e,in_err eb,take_err eb]
   refine ⟨by rw [take_not h1'],fun h=>absurd h eb⟩
theorem st_eq (fin:Pl):∀ (k:Nat) (r:RsC),isC wState r=true→(stP fin k r).2=(stR fin k r).2∧((stR fin k r).2.2.2=0→(stP fin k r).1=(stR fin k r).1)
 | 0,r,h=>by
  unfold stP stR
  rw [h,if_pos rfl]
  exact ⟨rfl,fun _=>rfl⟩
 | k+1,r,h=>by
  have hin:=in_eq fin (stR fin k) (stP fin k) (fun r h=>st_eq fin k r h) (fun r h0 h=>st_not fin h0 h k) ((kindR fin (takeR fin [123] (nameR fin (takeR fin wState r)).2)).2.1.length+1) [] [] (kindR fin (takeR fin [123] (nameR fin (takeR fin wState r)).2)).2
  unfold stP stR
  simp only
  refine ⟨hin.1,fun h0=>?_⟩
  have e:=hin.2 h0
  rw [e]
theorem sts_eq (fin:Pl):∀ (g:Nat) (acc:List (St 7)) (r:RsC),takeR fin [125] (stsP fin g acc r).2=takeR fin [125] (stsR fin g acc r).2∧((takeR fin [125] (stsR fin g acc r).2).2.2=0→(stsP fin g acc r).1=(stsR fin g acc r).1)
 | 0,acc,r=>⟨rfl,fun _=>rfl⟩
 | g+1,acc,r=>by
  by_cases hz:r.2.2≠0
  ·have h0:=hz
   rw [sts_err h0,stsP_err h0];exact ⟨rfl,fun _=>rfl⟩
  have h0:r.2.2=0:=Decidable.not_not.1 hz
  unfold stsP stsR
  by_cases h1:isC [125] r=true
  ·rw [is_one h1 (t:=wState) (by decide),if_neg (by decide),if_neg (by rw [h1];simp)]
   exact ⟨rfl,fun _=>rfl⟩
  have h1':isC [125] r=false:=by simpa using h1
  rw [if_pos (⟨h0,h1'⟩:r.2.2=0∧isC [125] r=false)]
  by_cases h3:isC wState r=true
  ·rw [if_pos h3]
   obtain ⟨e1,e2⟩:=st_eq fin 6 r h3
   rw [e1]
   by_cases h4:(stR fin 6 r).2.2.2=0
   ·rw [e2 h4]
    exact sts_eq fin g _ _
   ·rw [sts_err h4,stsP_err h4]
    refine ⟨rfl,fun h=>?_⟩
    rw [take_err h4] at h
    exact absurd h h4
  ·rw [if_neg h3]
   have h3':isC wState r=false:=by simpa using h3
   have e:=st_not fin h0 h3' 6
   have eb:(failC 12 (hereR fin r) r).2.2≠0:=failC_bad (by decide) _ _
   rw [e,sts_err eb,take_err eb]
   refine ⟨by rw [take_not h1'],fun h=>absurd h eb⟩
/-- What the reader tells behind the chart's last word. -/
def lastR (fin:Pl) (e:RsC):RsC:=if e.2.2=0∧e.1≠[] then failC 12 (hereR fin e) e else e
theorem last_ok {fin:Pl} {e:RsC} (h:(lastR fin e).2.2=0):e.2.2=0:=by
 unfold lastR at h
 by_cases hc:e.2.2=0∧e.1≠[]
 ·exact hc.1
 ·rw [if_neg hc] at h;exact h
/-- The chart of words, as the program reads it. -/
def chP (fin:Pl) (ws:List Wd):ChC × RsC:=
 let a:=nameR fin (takeR fin wChart (ws,(0,0),0))
 let n:=numR fin a.2
 let b:=takeR fin [123] n.2
 let v:=varsR fin (b.1.length+1) [] b
 let s:=stsP fin (v.2.1.length+1) [] v.2
 ((a.1,n.1,v.1,s.1),takeR fin [125] s.2)
def chZ (fin:Pl) (x:ChC × RsC):ChC × Pl × Int:=if (lastR fin x.2).2.2=0 then (x.1,(0,0),0) else (noC,(lastR fin x.2).2.1,(lastR fin x.2).2.2)
theorem ch_eq (fin:Pl) (ws:List Wd):chR fin ws=chZ fin (chP fin ws):=by
 unfold chR chZ chP
 simp only
 generalize nameR fin (takeR fin wChart (ws,(0,0),0))=A
 generalize numR fin A.2=N
 generalize varsR fin ((takeR fin [123] N.2).1.length+1) [] (takeR fin [123] N.2)=V
 obtain ⟨e1,e2⟩:=sts_eq fin (V.2.1.length+1) [] V.2
 rw [e1]
 show (if (lastR fin (takeR fin [125] (stsR fin (V.2.1.length+1) [] V.2).2)).2.2=0 then _ else (noC,(lastR fin (takeR fin [125] (stsR fin (V.2.1.length+1) [] V.2).2)).2.1,(lastR fin (takeR fin [125] (stsR fin (V.2.1.length+1) [] V.2).2)).2.2))=_
 by_cases h:(lastR fin (takeR fin [125] (stsR fin (V.2.1.length+1) [] V.2).2)).2.2=0
 ·rw [if_pos h,if_pos h,e2 (last_ok h)]
 ·rw [if_neg h,if_neg h]
theorem goesP_st (fin:Pl) (k:Nat) {r:RsC} (h:isC wState r=true):Goes r (stP fin k r).2∧((stP fin k r).2.2.2=0→(stP fin k r).2.1.length < r.1.length):=by
 rw [(st_eq fin k r h).1]
 exact goes_st fin k r
end Go.Proofs.YtfjdceknbdmhpaaGreatDoor
/- Charts in the program's memory. -/
namespace Go.Proofs.YtfjdceknbdmhpaaGreatDoor
open Go.RowKit Go.Lib
set_option linter.unusedSimpArgs false
set_option linter.unusedVariables false
/-- A text of bytes as a value. -/
def sV (l:List UInt8):Value:=.string ⟨l.toArray⟩
def rSet (ok:Nat→Prop) (w:World) (x:List UInt8 × Sx) (cs:List Value):Prop:=cs=[sV x.1,exX x.2]
theorem kp_set:Kp rSet:=fun _ _ _ _ _ _ h _=>h
/-- The guard: nil where there is none. -/
def gdV (g:Bool × Sx):Value:=if g.1=true then exX g.2 else .nilIface
theorem gdV_form (g:Bool × Sx):gdV g=.nilIface∨∃ u y,gdV g=.iface u y:=by
 unfold gdV
 split
 ·exact exX_form _
 ·exact .inl rfl
def onV (o:OnC) (sl:Value):List Value:=[sV o.1,gdV o.2.1,sV o.2.2.1,sl,.int .i64 o.2.2.2.2.1,.int .i64 o.2.2.2.2.2]
def rOn (ok:Nat→Prop) (w:World) (o:OnC) (cs:List Value):Prop:=∃ sl,cs=onV o sl∧RdK ok w 2 (rSet ok w) o.2.2.2.1 sl
theorem kp_on:Kp rOn:=fun _ _ _ _ _ _ ⟨sl,h,hr⟩ hk=>⟨sl,h,hr.stay kp_set hk⟩
def hdV (h:HdC) (so si:Value):List Value:=[sV h.1.1,.int .i64 h.1.2.1,.int .i64 h.1.2.2,.bool h.2.1.1,.bool h.2.1.2,sV h.2.2.1.1,sV h.2.2.1.2,.int .i64 h.2.2.2.1.1,.int .i64 h.2.2.2.1.2,so,si]
def rSt:(d:Nat)→(Nat→Prop)→World→St d→List Value→Prop
 | 0,_,_,t,_=>Empty.elim t
 | d+1,ok,w,t,cs=>∃ so si,cs=hdV t.1 so si∧RdK ok w 6 (rOn ok w) t.1.2.2.2.2 so∧RdK ok w 11 (rSt d ok w) t.2 si
theorem kp_st:∀ d,Kp (rSt d)
 | 0=>fun _ _ _ _ x _ _ _=>Empty.elim x
 | d+1=>fun _ _ _ _ _ _ ⟨so,si,h,h1,h2⟩ hk=>⟨so,si,h,h1.stay kp_on hk,h2.stay (kp_st d) hk⟩
def varV (x:List UInt8 × Int × Pl):List Value:=[sV x.1,.int .i64 x.2.1,.int .i64 x.2.2.1,.int .i64 x.2.2.2]
def rVar (ok:Nat→Prop) (w:World) (x:List UInt8 × Int × Pl) (cs:List Value):Prop:=cs=varV x
theorem kp_var:Kp rVar:=fun _ _ _ _ _ _ h _=>h
/-- A chart whose states lie less than d deep. -/
abbrev ChG (d:Nat):=(List UInt8 × Pl) × Int × List (List UInt8 × Int × Pl) × List (St d)
def RdC (ok:Nat→Prop) (w:World) (d:Nat) (c:ChG d) (v:Value):Prop:=
 ∃ sv ss,v=.agg #[sV c.1.1,.int .i64 c.2.1,.int .i64 c.1.2.1,.int .i64 c.1.2.2,sv,ss]∧RdK ok w 4 (rVar ok w) c.2.2.1 sv∧RdK ok w 11 (rSt d ok w) c.2.2.2 ss
theorem RdC.keep {ok ok':Nat→Prop} {w w':World} {d:Nat} {c:ChG d} {v:Value} (h:RdC ok w d c v) (hk:∀ b,ok b→b < w.heap.size→ok' b∧w'.heap[b]?=w.heap[b]?):RdC ok' w' d c v:=by
 obtain ⟨sv,ss,h1,h2,h3⟩:=h
 exact ⟨sv,ss,h1,h2.stay kp_var hk,h3.stay (kp_st d) hk⟩
theorem rdC_no (ok:Nat→Prop) (w:World):RdC ok w 7 noC (.agg #[.string ⟨#[]⟩,.int .i64 0,.int .i64 0,.int .i64 0,.slice none 0 0,.slice none 0 0]):=⟨_,_,rfl,rdK_none _ _ _ _,rdK_none _ _ _ _⟩
theorem cells_new {w:World} {cs:List Value} {e:TypeId}:∀ j u,cs[j]?=some u→(w.alloc (.cells cs.toArray e)).cell? ((⟨w.heap.size,0,none⟩:Addr).add j)=some u:=fun j u hu=>by
 rw [add_plain,Nat.zero_add]
 exact (Bn.new w cs e _ rfl j u hu).1
theorem src_row {P:Program} {t e:TypeId} (ht:P.underlying t=some (.slice e)) (w:World) {k:Nat} (cs:List Value) (hk:cs.length=k) (h1:∀ u∈cs,u.oneCell'=true):Src P k t (.slice (some ⟨w.heap.size,0,none⟩) 1 1) 1 cs (w.alloc (.cells cs.toArray e)):=
 Src.ofSlice _ ht _ 1 1 _ (by rw [Nat.one_mul];exact hk) cells_new h1
theorem step_push {α:Type} {P:Program} (w:World) {ops:Array Oper} {o:Oper} {a:Act} {K:Act→World→Prop} {Q:Exit→Act→World→Prop} {E:Prop} (hgd:o.guard=none) (s x:Operand) (t:TypeId)
  (ho:o.op=.call { callee:=.builtin .append,args:=#[s,x],argTypes:=#[t,t] })
  (base:Nat) (e:TypeId) (i:TypeInfo) (z:Value) (k bytes:Nat) (ht:P.underlying t=some (.slice e)) (hi:P.info? e=some i) (hz:i.zero=some z)
  (hsize:i.size=k) (hby:i.bytes=bytes) (hzs:z.cells.size=k) {R:(Nat→Prop)→World→α→List Value→Prop} (hR:Kp R)
  (v:Value) (l:List α) (p:α) (cs:List Value) (lo:Nat) (hs:a.eval s=v) (hx:a.eval x=.slice (some ⟨w.heap.size,0,none⟩) 1 1) (hk:cs.length=k) (h1:∀ u∈cs,u.oneCell'=true)
  (hown:OwnK w base e k R v l) (hp:R (fun b=>lo≤b) w p cs) (hlo:base≤lo) (hv:∀ x,v.ownBlock=some x→x < lo) (hroom:(l.length+1+(l.length+1) / 4+192)*bytes≤281474976710656)
  (h63:l.length+1≤maxLen) (hbase:base≤w.heap.size)
  (h:∀ v' w',OwnK w' base e k R v' (l++[p])→(w.alloc (.cells cs.toArray e)).grownBy w' v.ownBlock→Below base w w'→K (a.put o.dst v') w') :
  if Region.wanted o (yielded ops a.tmps)=true then Oper.wp P o a (w.alloc (.cells cs.toArray e)) K Q else E:=by
 have hal:Below w.heap.size w (w.alloc (.cells cs.toArray e)):=(Below.refl _ _).alloc (Nat.le_refl _) _
 obtain ⟨qs,ho1,hl1,hr1⟩:=hown.on hR hal
 refine step_append_at _ hgd s x t t ho base e i z k bytes ht hi hz hsize hby hzs v l.length qs.flatten hs ho1 _ 1 cs hx (src_row ht w cs hk h1) 1 (.inr hroom) (Nat.le_refl _) h63 (Nat.le_trans hbase hal.size) ?_
 intro v' w' hown' hg hat
 refine h v' w' (OwnK.snoc hR hk rfl ho1 hl1 hr1 hown' hg hat (hR hp (fun b hb hlt=>⟨hb,hal.block b hlt⟩)) hlo hv) hg ?_
 exact ((Below.refl base w).alloc hbase _).grown hg (Nat.le_trans hbase hal.size) (fun k hk=>(World.ownsRow.lt ho1 k hk).1)
/-- Nothing but two blocks has turned, and new blocks. -/
structure Fy (X Y:Nat) (w w':World):Prop where
 os:w'.os=w.os
 tape:w'.tape=w.tape
 output:w'.output=w.output
 size:w.heap.size≤w'.heap.size
 block:∀ k,k < w.heap.size→k≠X→k≠Y→w'.heap[k]?=w.heap[k]?
theorem Fy.of {X Y:Nat} {a b:World} (h:Fx X a b):Fy X Y a b:=⟨h.os,h.tape,h.output,h.size,fun k hk h1 _=>h.block k hk (fun e=>h1 (Option.some.inj e))⟩
theorem Fy.trans {X Y:Nat} {a b c:World} (h:Fy X Y a b) (k:Fy X Y b c):Fy X Y a c:=
 ⟨k.os.trans h.os,k.tape.trans h.tape,k.output.trans h.output,Nat.le_trans h.size k.size,fun j hj h1 h2=>(k.block j (Nat.lt_of_lt_of_le hj h.size) h1 h2).trans (h.block j hj h1 h2)⟩
theorem Fy.setY {X Y i:Nat} {a b:World} (h:Fy X Y a b) (u:Value):Fy X Y a (b.setCell ⟨Y,i,none⟩ u):=
 ⟨h.os,h.tape,h.output,by simpa using h.size,fun k hk h1 h2=>(Below.heap_setCell _ _ _ _ (fun e=>h2 e)).trans (h.block k hk h1 h2)⟩
theorem Fx.andY {X Y:Nat} {a b c:World} (h:Fx X a b) (k:Fy X Y b c) (hY:a.heap.size≤Y):Fx X a c:=
 ⟨k.os.trans h.os,k.tape.trans h.tape,k.output.trans h.output,Nat.le_trans h.size k.size,fun j hj h1=>(k.block j (Nat.lt_of_lt_of_le hj h.size) (fun e=>h1 (congrArg some e)) (by omega)).trans (h.block j hj h1)⟩
theorem Bn.fy {w w':World} {X Y N:Nat} {c:Value} {cs:List Value} (h:Bn w N (c :: cs)) (hf:Fy X Y w w') (h1:N≠X) (h2:N≠Y):Bn w' N (c :: cs):=h.blk (hf.block N h.lt h1 h2)
/-- As OwnK; nothing of it lies in a block that is bad. -/
def OwnB {α:Type} (w:World) (base:Nat) (bad:Nat→Prop) (e k:Nat) (R:(Nat→Prop)→World→α→List Value→Prop) (v:Value) (l:List α):Prop:=
 ∃ qs:List (List Value),w.ownsRow base e k v l.length qs.flatten∧qs.length=l.length∧(∀ (i:Nat) (h:i < l.length) (h':i < qs.length),(qs[i]).length=k∧R (fun b=>base≤b∧v.ownBlock≠some b∧¬ bad b) w l[i] qs[i])∧∀ g,v.ownBlock=some g→¬ bad g
theorem ownB_nil {α:Type} (w:World) (base:Nat) (bad:Nat→Prop) (e k:Nat) (R:(Nat→Prop)→World→α→List Value→Prop):OwnB w base bad e k R (.slice none 0 0) []:=⟨[],World.ownsRow_nil w base e k,rfl,fun i h=>absurd h (by simp),fun g hg=>by simp [Value.ownBlock] at hg⟩
theorem OwnB.keep {α:Type} {w w':World} {base e k:Nat} {bad bad':Nat→Prop} {R:(Nat→Prop)→World→α→List Value→Prop} {v:Value} {l:List α} (hR:Kp R) (h:OwnB w base bad e k R v l) (hk:∀ b,base≤b→¬ bad b→b < w.heap.size→w'.heap[b]?=w.heap[b]?∧¬ bad' b):OwnB w' base bad' e k R v l:=by
 obtain ⟨qs,ho,hl,hr,hg0⟩:=h
 refine ⟨qs,ownsRow_keep ho (fun g hg=>?_),hl,fun i h h'=>⟨(hr i h h').1,hR (hr i h h').2 (fun b hb hlt=>⟨⟨hb.1,hb.2.1,(hk b hb.1 hb.2.2 hlt).2⟩,(hk b hb.1 hb.2.2 hlt).1⟩)⟩,fun g hg=>?_⟩
 ·obtain ⟨a,b⟩:=ownsRow_lt ho g hg
  exact (hk g a (hg0 g hg) b).1
 ·obtain ⟨a,b⟩:=ownsRow_lt ho g hg
  exact (hk g a (hg0 g hg) b).2
theorem OwnB.on {α:Type} {w w':World} {base e k:Nat} {bad:Nat→Prop} {R:(Nat→Prop)→World→α→List Value→Prop} {v:Value} {l:List α} (hR:Kp R) (h:OwnB w base bad e k R v l) (hb:Below w.heap.size w w'):OwnB w' base bad e k R v l:=h.keep hR (fun b _ hbad hlt=>⟨hb.block b hlt,hbad⟩)
theorem OwnB.fx {α:Type} {w w':World} {base e k X:Nat} {bad:Nat→Prop} {R:(Nat→Prop)→World→α→List Value→Prop} {v:Value} {l:List α} (hR:Kp R) (h:OwnB w base bad e k R v l) (hf:Fx X w w') (hX:X < base):OwnB w' base bad e k R v l:=
 h.keep hR (fun b hb hbad hlt=>⟨hf.block b hlt (fun e=>by have:b=X:=Option.some.inj e;omega),hbad⟩)
theorem OwnB.set {α:Type} {w:World} {base e k:Nat} {bad:Nat→Prop} {R:(Nat→Prop)→World→α→List Value→Prop} {v:Value} {l:List α} (hR:Kp R) (h:OwnB w base bad e k R v l) {X i:Nat} (hX:X < base) (u:Value):OwnB (w.setCell ⟨X,i,none⟩ u) base bad e k R v l:=
 h.keep hR (fun b hb hbad _=>⟨Below.heap_setCell _ _ _ _ (fun e=>by have:b=X:=e;omega),hbad⟩)
theorem OwnB.form {α:Type} {w:World} {base e k:Nat} {bad:Nat→Prop} {R:(Nat→Prop)→World→α→List Value→Prop} {v:Value} {l:List α} (h:OwnB w base bad e k R v l):∃ a cap,v=.slice a l.length cap∧l.length≤cap∧cap≤maxLen:=by
 obtain ⟨qs,ho,_⟩:=h
 rcases ho.2 with ⟨h1,h2⟩ | ⟨g,cap,cur,h1,_,_,h3,h4,_⟩
 ·exact ⟨none,0,by rw [h1,h2],by omega,by simp [maxLen]⟩
 ·exact ⟨_,_,h1,h3,h4⟩
theorem OwnB.lt {α:Type} {w:World} {base e k:Nat} {bad:Nat→Prop} {R:(Nat→Prop)→World→α→List Value→Prop} {v:Value} {l:List α} (h:OwnB w base bad e k R v l):∀ g,v.ownBlock=some g→base≤g∧g < w.heap.size:=by
 obtain ⟨qs,ho,_⟩:=h
 exact ownsRow_lt ho
/-- The other row has grown. -/
theorem OwnB.other {α:Type} {w w':World} {base e k:Nat} {u u':Value} {R:(Nat→Prop)→World→α→List Value→Prop} {v:Value} {l:List α} (hR:Kp R) (h:OwnB w base (fun b=>u.ownBlock=some b) e k R v l) (hg:w.grownBy w' u.ownBlock) (hat:u'.ownBlock=u.ownBlock∨u'.ownBlock=some w.heap.size):OwnB w' base (fun b=>u'.ownBlock=some b) e k R v l:=
 h.keep hR (fun b hb hbad hlt=>⟨hg.block b hlt (fun e=>hbad e.symm),fun q=>by
  rcases hat with h | h
  ·exact hbad (h ▸ q)
  ·rw [h] at q;have:w.heap.size=b:=Option.some.inj q;omega⟩)
theorem OwnB.snoc {α:Type} {w w':World} {base e k lo n:Nat} {bad:Nat→Prop} {R:(Nat→Prop)→World→α→List Value→Prop} {v v':Value} {l:List α} {p:α} {cs:List Value} {qs:List (List Value)} (hR:Kp R) (hk:cs.length=k)
  (hn:l.length=n) (ho:w.ownsRow base e k v n qs.flatten) (hl:qs.length=l.length) (hr:∀ (i:Nat) (h:i < l.length) (h':i < qs.length),(qs[i]).length=k∧R (fun b=>base≤b∧v.ownBlock≠some b∧¬ bad b) w l[i] qs[i])
  (ho':w'.ownsRow base e k v' (n+1) (qs.flatten++cs)) (hg:w.grownBy w' v.ownBlock) (hat:v'.ownBlock=v.ownBlock∨v'.ownBlock=some w.heap.size)
  (hp:R (fun b=>lo≤b) w p cs) (hlo:base≤lo) (hv:∀ x,v.ownBlock=some x→x < lo) (hbad:∀ b,bad b→b < lo∧b < w.heap.size) (hvb:∀ g,v.ownBlock=some g→¬ bad g):OwnB w' base bad e k R v' (l++[p]):=by
 subst hn
 have key:∀ b,base≤b∧v.ownBlock≠some b∧¬ bad b→b < w.heap.size→(base≤b∧v'.ownBlock≠some b∧¬ bad b)∧w'.heap[b]?=w.heap[b]?:=fun b hb hlt=>by
  refine ⟨⟨hb.1,fun e=>?_,hb.2.2⟩,hg.block b hlt (fun e=>hb.2.1 e.symm)⟩
  rcases hat with h | h
  ·exact hb.2.1 (h ▸ e)
  ·rw [h] at e;have:w.heap.size=b:=Option.some.inj e;omega
 refine ⟨qs++[cs],?_,by simp [hl],fun i h h'=>?_,fun g hg'=>?_⟩
 ·rw [List.flatten_append,List.length_append]
  simpa using ho'
 ·rcases Nat.lt_or_ge i l.length with hi | hi
  ·rw [List.getElem_append_left hi,List.getElem_append_left (by omega)]
   exact ⟨(hr i hi (by omega)).1,hR (hr i hi (by omega)).2 key⟩
  ·have:i=l.length:=by simp at h;omega
   subst this
   have e1:(l++[p])[l.length]=p:=by simp
   have e2:(qs++[cs])[l.length]'h'=cs:=by simp [← hl]
   rw [e1,e2]
   exact ⟨hk,hR hp (fun b hb hlt=>key b ⟨by omega,fun e=>by have:=hv b e;omega,fun q=>by have:=(hbad b q).1;omega⟩ hlt)⟩
 ·rcases hat with h | h
  ·exact hvb g (h ▸ hg')
  ·rw [h] at hg'
   have:w.heap.size=g:=Option.some.inj hg'
   intro q
   have:=(hbad g q).2
   omega
theorem OwnB.rd {α:Type} {w:World} {base e k:Nat} {bad:Nat→Prop} {R:(Nat→Prop)→World→α→List Value→Prop} {v:Value} {l:List α} (hR:Kp R) (h:OwnB w base bad e k R v l):RdK (fun b=>base≤b) w k (R (fun b=>base≤b) w) l v:=by
 obtain ⟨qs,ho,hl,hr,_⟩:=h
 exact OwnK.rd hR ⟨qs,ho,hl,fun i h h'=>⟨(hr i h h').1,hR (hr i h h').2 (fun b hb _=>⟨⟨hb.1,hb.2.1⟩,rfl⟩)⟩⟩
theorem step_pushB {α:Type} {P:Program} (w:World) {ops:Array Oper} {o:Oper} {a:Act} {K:Act→World→Prop} {Q:Exit→Act→World→Prop} {E:Prop} (hgd:o.guard=none) (s x:Operand) (t:TypeId)
  (ho:o.op=.call { callee:=.builtin .append,args:=#[s,x],argTypes:=#[t,t] })
  (base:Nat) (bad:Nat→Prop) (e:TypeId) (i:TypeInfo) (z:Value) (k bytes:Nat) (ht:P.underlying t=some (.slice e)) (hi:P.info? e=some i) (hz:i.zero=some z)
  (hsize:i.size=k) (hby:i.bytes=bytes) (hzs:z.cells.size=k) {R:(Nat→Prop)→World→α→List Value→Prop} (hR:Kp R)
  (v:Value) (l:List α) (p:α) (cs:List Value) (lo:Nat) (hs:a.eval s=v) (hx:a.eval x=.slice (some ⟨w.heap.size,0,none⟩) 1 1) (hk:cs.length=k) (h1:∀ u∈cs,u.oneCell'=true)
  (hown:OwnB w base bad e k R v l) (hp:R (fun b=>lo≤b) w p cs) (hlo:base≤lo) (hv:∀ x,v.ownBlock=some x→x < lo) (hbad:∀ b,bad b→b < lo∧b < w.heap.size) (hroom:(l.length+1+(l.length+1) / 4+192)*bytes≤281474976710656)
  (h63:l.length+1≤maxLen) (hbase:base≤w.heap.size)
  (h:∀ v' w',OwnB w' base bad e k R v' (l++[p])→(w.alloc (.cells cs.toArray e)).grownBy w' v.ownBlock→Below base w w'→(v'.ownBlock=v.ownBlock∨v'.ownBlock=some (w.alloc (.cells cs.toArray e)).heap.size)→K (a.put o.dst v') w') :
  if Region.wanted o (yielded ops a.tmps)=true then Oper.wp P o a (w.alloc (.cells cs.toArray e)) K Q else E:=by
 have hal:Below w.heap.size w (w.alloc (.cells cs.toArray e)):=(Below.refl _ _).alloc (Nat.le_refl _) _
 obtain ⟨qs,ho1,hl1,hr1,hg1⟩:=hown.on hR hal
 refine step_append_at _ hgd s x t t ho base e i z k bytes ht hi hz hsize hby hzs v l.length qs.flatten hs ho1 _ 1 cs hx (src_row ht w cs hk h1) 1 (.inr hroom) (Nat.le_refl _) h63 (Nat.le_trans hbase hal.size) ?_
 intro v' w' hown' hg hat
 refine h v' w' (OwnB.snoc hR hk rfl ho1 hl1 hr1 hown' hg hat (hR hp (fun b hb hlt=>⟨hb,hal.block b hlt⟩)) hlo hv (fun b q=>⟨(hbad b q).1,Nat.lt_of_lt_of_le (hbad b q).2 hal.size⟩) hg1) hg ?_ hat
 exact ((Below.refl base w).alloc hbase _).grown hg (Nat.le_trans hbase hal.size) (fun k hk=>(World.ownsRow.lt ho1 k hk).1)
/-- Cells written one behind the other. -/
def putL (w:World) (g:Nat):Nat→List Value→World
 | _,[]=>w
 | o,c :: cs=>putL (w.setCell ⟨g,o,none⟩ c) g (o+1) cs
theorem putL_own:∀ (cs zs xs ys:List Value) (w:World) (base e k:Nat) (g n cap o:Nat),zs.length=cs.length→xs.length=o→w.ownsRow base e k (.slice (some ⟨g,0,none⟩) n cap) n (xs++zs++ys)→(putL w g o cs).ownsRow base e k (.slice (some ⟨g,0,none⟩) n cap) n (xs++cs++ys)
 | [],zs,xs,ys,w,base,e,k,g,n,cap,o,hz,hx,h=>by
  have:zs=[]:=List.eq_nil_of_length_eq_zero (by simpa using hz)
  subst this
  exact h
 | c :: cs,[],xs,ys,w,base,e,k,g,n,cap,o,hz,hx,h=>by simp at hz
 | c :: cs,z :: zs,xs,ys,w,base,e,k,g,n,cap,o,hz,hx,h=>by
  have h1:=(World.ownsRow.stored h o c).1
  have e1:(xs++z :: zs++ys).set o c=(xs++[c])++zs++ys:=by
   subst hx
   simp
  rw [e1] at h1
  have h2:=putL_own cs zs (xs++[c]) ys _ base e k g n cap (o+1) (by simpa using hz) (by simp [hx]) h1
  have e2:xs++[c]++cs++ys=xs++(c :: cs)++ys:=by simp
  rw [e2] at h2
  exact h2
theorem putL_heap:∀ (cs:List Value) (w:World) (g o k:Nat),k≠g→(putL w g o cs).heap[k]?=w.heap[k]?
 | [],w,g,o,k,h=>rfl
 | c :: cs,w,g,o,k,h=>by
  unfold putL
  rw [putL_heap cs _ g (o+1) k h]
  exact Below.heap_setCell _ _ _ _ (fun e=>h e)
theorem putL_size:∀ (cs:List Value) (w:World) (g o:Nat),(putL w g o cs).heap.size=w.heap.size
 | [],w,g,o=>rfl
 | c :: cs,w,g,o=>by unfold putL;rw [putL_size cs _ g (o+1)];simp
theorem putL_below {B:Nat} {u:World}:∀ (cs:List Value) (w:World) (g o:Nat),Below B u w→B≤g→Below B u (putL w g o cs)
 | [],w,g,o,h,hg=>h
 | c :: cs,w,g,o,h,hg=>putL_below cs _ g (o+1) (h.setCell hg c) hg
/-- In block G a row of n elements of k cells; the first of them are these. -/
def RowG {α:Type} (w:World) (G k n:Nat) (R:(Nat→Prop)→World→α→List Value→Prop) (l:List α):Prop:=
 (∀ j,j < n*k→(∃ u,w.cell? ⟨G,j,none⟩=some u)∧w.frozen? ⟨G,j,none⟩=false)∧
 ∀ (i:Nat) (h:i < l.length),∃ cs,cs.length=k∧R (fun b=>G < b) w l[i] cs∧∀ j u,cs[j]?=some u→w.cell? ⟨G,i*k+j,none⟩=some u
theorem RowG.made {α:Type} (w:World) (z:Array Value) (k n:Nat) (e:TypeId) (R:(Nat→Prop)→World→α→List Value→Prop):RowG (w.alloc (.cells (madeCells z (n*k)) e)) w.heap.size k n R ([]:List α):=by
 refine ⟨fun j hj=>⟨?_,by simp⟩,fun i h=>absurd h (by simp)⟩
 rw [World.cell?_alloc_new]
 have hs:j < (madeCells z (n*k)).size:=by rw [size_madeCells];exact hj
 exact ⟨_,Array.getElem?_eq_getElem hs⟩
theorem RowG.on {α:Type} {w w':World} {G k n:Nat} {R:(Nat→Prop)→World→α→List Value→Prop} {l:List α} (hR:Kp R) (hG:G < w.heap.size) (h:RowG w G k n R l) (hb:Below w.heap.size w w'):RowG w' G k n R l:=by
 refine ⟨fun j hj=>?_,fun i hi=>?_⟩
 ·obtain ⟨⟨u,hu⟩,hf⟩:=h.1 j hj
  exact ⟨⟨u,(hb.cell (p:=⟨G,j,none⟩) hG).trans hu⟩,(hb.frozen (p:=⟨G,j,none⟩) hG).trans hf⟩
 ·obtain ⟨cs,h1,h2,h3⟩:=h.2 i hi
  exact ⟨cs,h1,hR h2 (fun b hb' hl=>⟨hb',hb.block b hl⟩),fun j u hu=>(hb.cell (p:=⟨G,i*k+j,none⟩) hG).trans (h3 j u hu)⟩
theorem putL_cell:∀ (cs:List Value) (w:World) (G o j:Nat),(∀ i,i < cs.length→∃ u,w.cell? ⟨G,o+i,none⟩=some u)→(putL w G o cs).cell? ⟨G,j,none⟩=if o≤j∧j < o+cs.length then cs[j - o]? else w.cell? ⟨G,j,none⟩
 | [],w,G,o,j,_=>by rw [if_neg (by simp only [List.length_nil];omega)];rfl
 | c :: cs,w,G,o,j,h=>by
  have h':∀ i,i < cs.length→∃ u,(w.setCell ⟨G,o,none⟩ c).cell? ⟨G,o+1+i,none⟩=some u:=fun i hi=>by
   obtain ⟨u,hu⟩:=h (i+1) (by simp;omega)
   exact ⟨u,cell_far4 (by omega) (by rw [show o+1+i=o+(i+1) by omega];exact hu)⟩
  show (putL (w.setCell ⟨G,o,none⟩ c) G (o+1) cs).cell? ⟨G,j,none⟩=_
  rw [putL_cell cs _ G (o+1) j h']
  obtain ⟨u,hu⟩:=h 0 (by simp)
  rw [Nat.add_zero] at hu
  by_cases hj:o+1≤j∧j < o+1+cs.length
  ·rw [if_pos hj,if_pos (by simp only [List.length_cons];omega),show j - o=(j - (o+1))+1 by omega,List.getElem?_cons_succ]
  ·rw [if_neg hj]
   by_cases he:o=j
   ·subst he
    rw [if_pos (by simp only [List.length_cons];omega),Nat.sub_self,List.getElem?_cons_zero]
    exact cell_same4 hu
   ·rw [if_neg (by simp only [List.length_cons];omega)]
    cases hw:w.cell? ⟨G,j,none⟩ with
    | some v=>exact cell_far4 (by omega) hw
    | none=>
     unfold World.setCell World.cell? at *
     simp only [Array.getElem?_modify] at hw ⊢
     by_cases hb:w.heap[G]?=none
     ·simp [hb]
     ·obtain ⟨x,hx⟩:=Option.ne_none_iff_exists'.1 hb
      simp only [hx] at hw ⊢
      cases x <;> simp_all [Array.getElem?_set]
theorem putL_frozen:∀ (cs:List Value) (w:World) (G o:Nat) (p:Addr),(putL w G o cs).frozen? p=w.frozen? p
 | [],w,G,o,p=>rfl
 | c :: cs,w,G,o,p=>by
  show (putL (w.setCell ⟨G,o,none⟩ c) G (o+1) cs).frozen? p=_
  rw [putL_frozen cs _ G (o+1) p]
  exact World.frozen?_setCell _ _ _ _
theorem mul_in {i j k m:Nat} (hi:i < m) (hj:j < k):i*k+j < m*k:=by
 have:(i+1)*k≤m*k:=Nat.mul_le_mul_right k hi
 rw [Nat.succ_mul] at this
 omega
theorem RowG.put {α:Type} {w:World} {G k n:Nat} {R:(Nat→Prop)→World→α→List Value→Prop} {l:List α} {x:α} {cs:List Value} (hR:Kp R) (h:RowG w G k n R l) (hl:l.length < n) (hk:cs.length=k) (hp:R (fun b=>G < b) w x cs):RowG (putL w G (l.length*k) cs) G k n R (l++[x]):=by
 have hin:∀ i,i < cs.length→∃ u,w.cell? ⟨G,l.length*k+i,none⟩=some u:=fun i hi=>(h.1 _ (mul_in hl (by omega))).1
 have hc:=fun j=>putL_cell cs w G (l.length*k) j hin
 have hkp:∀ b,G < b→b < w.heap.size→G < b∧(putL w G (l.length*k) cs).heap[b]?=w.heap[b]?:=fun b hb _=>⟨hb,putL_heap cs w G _ b (by omega)⟩
 refine ⟨fun j hj=>⟨?_,(putL_frozen cs w G _ _).trans (h.1 j hj).2⟩,fun i hi=>?_⟩
 ·rw [hc]
  split
  ·next hr=>exact ⟨_,List.getElem?_eq_getElem (by omega)⟩
  ·exact (h.1 j hj).1
 ·rcases Nat.lt_or_ge i l.length with hlt | hge
  ·obtain ⟨cs',h1,h2,h3⟩:=h.2 i hlt
   rw [List.getElem_append_left hlt]
   refine ⟨cs',h1,hR h2 hkp,fun j u hu=>?_⟩
   have hjk:j < k:=by
    have:=(List.getElem?_eq_some_iff.1 hu).1
    omega
   have:=mul_in hlt hjk
   rw [hc,if_neg (by omega)]
   exact h3 j u hu
  ·have:i=l.length:=by simp at hi;omega
   subst this
   have e1:(l++[x])[l.length]=x:=by simp
   rw [e1]
   refine ⟨cs,hk,hR hp hkp,fun j u hu=>?_⟩
   have hjk:j < k:=by
    have:=(List.getElem?_eq_some_iff.1 hu).1
    omega
   rw [hc,if_pos (by omega),Nat.add_sub_cancel_left]
   exact hu
theorem RowG.rd {α:Type} {w:World} {G k n:Nat} {R:(Nat→Prop)→World→α→List Value→Prop} {l:List α} (hR:Kp R) (h:RowG w G k n R l) (hG:G < w.heap.size) (hn:l.length=n) (hm:n≤maxLen):RdK (fun b=>G≤b) w k (R (fun b=>G≤b) w) l (.slice (some ⟨G,0,none⟩) n n):=by
 subst hn
 refine ⟨some ⟨G,0,none⟩,l.length,rfl,Nat.le_refl _,hm,fun i hi=>?_⟩
 obtain ⟨cs,h1,h2,h3⟩:=h.2 i hi
 refine ⟨G,0,cs,rfl,Nat.le_refl _,hG,h1,hR h2 (fun b hb _=>⟨by omega,rfl⟩),fun j u hu=>?_⟩
 rw [Nat.zero_add]
 exact h3 j u hu
end Go.Proofs.YtfjdceknbdmhpaaGreatDoor
/- What the program's copy of a set is, and of sets. -/
namespace Go.Proofs.YtfjdceknbdmhpaaGreatDoor
open Go.RowKit Go.Lib
set_option linter.unusedSimpArgs false
set_option linter.unusedVariables false
attribute [local go_sem ↓] Go.wp_at_zero Go.wp_at_succ
def ExOk (x:Sx):Prop:=ClX x∧cntX x≤2000∧shrt 1000 x.1 x.2=true
def SetOk (s:List UInt8 × Sx):Prop:=s.1.length≤140737488351232∧ExOk s.2
theorem copX {x:Sx} (h:ExOk x) (w:World):Calls Tryz.prog 134 #[exX x] w fun e w'=>e=.returned (exX x)∧Below w.heap.size w w':=copied_any h.1 (by have:=h.2.1;unfold cntX at this;omega) h.2.2 w
theorem setQ_at {ok:Nat→Prop} {w:World} {l:List (List UInt8 × Sx)} {a:Option Addr} {n cap:Nat} (h:RdK ok w 2 (rSet ok w) l (.slice a n cap)) (j:Nat) (hj:j < l.length):∃ b off,a=some ⟨b,off,none⟩∧b < w.heap.size∧∀ i u,[sV l[j].1,exX l[j].2][i]?=some u→w.cell? ⟨b,off+j*2+i,none⟩=some u:=by
 obtain ⟨a1,cap1,he,h1,h2,h3⟩:=h
 simp only [Value.slice.injEq] at he
 obtain ⟨rfl,rfl,rfl⟩:=he
 obtain ⟨b,off,cs,ha,_,hb,hl,hr,hc⟩:=h3 j hj
 have hr:cs=[sV l[j].1,exX l[j].2]:=hr
 subst hr
 exact ⟨b,off,ha,hb,hc⟩
theorem cset_res {w4:World} {R:Nat} {a b:Value} {tmps:Array Value} (hR:Bn w4 R [a,b]) (ht:tmps.getD 2 undef=.pointer (some ⟨R,0,none⟩)):(results Tryz.f136 tmps).run Tryz.prog w4=.ok (.agg #[a,b]) w4:=by
 have ht':tmps[2]?.getD undef=.pointer (some ⟨R,0,none⟩):=by simpa using ht
 have c0:=(hR 0 _ rfl).1
 have c1:=(hR 1 _ rfl).1
 simp [results,Tryz.results136,go_sem,ht',c0,c1]
def CsC (s0:ByteArray) (v:Value):Prop:=∀ w,Calls Tryz.prog 136 #[.agg #[.string s0,v]] w fun e w'=>e=.returned (.agg #[.string s0,v])∧Below w.heap.size w w'
set_option maxRecDepth 100000 in
set_option maxHeartbeats 8000000 in
theorem cs_nil (s0:ByteArray) (hs:s0.size≤140737488351232) (h2:∀ w1,Calls Tryz.prog 134 #[.nilIface] w1 fun e w'=>e=.returned (.nilIface)∧Below w1.heap.size w1 w'):CsC s0 (.nilIface):=by
 intro w
 have h1:=fun w1=>pClone_any s0 w1 hs
 have hal:Below w.heap.size w ((w.alloc (.cells #[.string s0,.nilIface] 136)).alloc (.cells #[.string ⟨#[]⟩,.nilIface] 136)):=((Below.refl w.heap.size w).alloc (Nat.le_refl _) _).alloc (by simp) _
 have hX:Bn ((w.alloc (.cells #[.string s0,.nilIface] 136)).alloc (.cells #[.string ⟨#[]⟩,.nilIface] 136)) w.heap.size [.string s0,.nilIface]:=(Bn.new w [.string s0,.nilIface] 136 _ rfl).on ((Below.refl _ _).alloc (Nat.le_refl _) _)
 have hR:Bn ((w.alloc (.cells #[.string s0,.nilIface] 136)).alloc (.cells #[.string ⟨#[]⟩,.nilIface] 136)) (w.heap.size+1) [.string ⟨#[]⟩,.nilIface]:=Bn.new (w.alloc (.cells #[.string s0,.nilIface] 136)) [.string ⟨#[]⟩,.nilIface] 136 _ (by simp)
 go_enter Tryz.func136,Tryz.ntmps136
 go_upto_region 1 with fail
 generalize (w.alloc (.cells #[.string s0,.nilIface] 136)).alloc (.cells #[.string ⟨#[]⟩,.nilIface] 136)=wx at *
 have hB:Below wx.heap.size wx wx:=Below.refl _ _
 obtain ⟨c0,_⟩:=hX 0 _ rfl
 obtain ⟨c1,_⟩:=hX 1 _ rfl
 have hlt:=hX.lt
 obtain ⟨S,hS⟩:∃ S,w.heap.size=S:=⟨_,rfl⟩
 rw [hS] at c0 c1 hlt hR ⊢
 go_region_held_law (fun w'=>w'.cell? ⟨S,0,none⟩=some (.string s0)∧w'.cell? ⟨S,1,none⟩=some (.nilIface))
  (first | exact ⟨(hB.cell (p:=⟨S,0,none⟩) hlt).trans c0,(hB.cell (p:=⟨S,1,none⟩) hlt).trans c1⟩ | exact ⟨cell_far4 (by omega) (cell_far4 (by omega) ((hB.cell (p:=⟨S,0,none⟩) hlt).trans c0)),cell_far4 (by omega) (cell_far4 (by omega) ((hB.cell (p:=⟨S,1,none⟩) hlt).trans c1))⟩)
  (first
   | (go_at_call 38;(with_reducible refine (h1 _).mono ?_);rintro e w1 ⟨rfl,b1⟩;(first | have hB:=Below.nxd hB b1 | have hB:=Below.nx hB b1);have hR1:=hR.on hB;obtain ⟨r0,f0⟩:=hR1 0 _ rfl;obtain ⟨r1,f1⟩:=hR1 1 _ rfl)
   | (go_at_call 134;(with_reducible refine (h2 _).mono ?_);rintro e w1 ⟨rfl,b1⟩;(first | have hB:=Below.nxd hB b1 | have hB:=Below.nx hB b1);have hR1:=hR.on hB;obtain ⟨r0,f0⟩:=hR1 0 _ rfl;obtain ⟨r1,f1⟩:=hR1 1 _ rfl)
   | fail)
 all_goals (
  have hR2:=(hR1.set (i:=0) (by simp) (.string s0)).set (i:=1) (by simp) (.nilIface)
  have hb2:=((hal.trans (hB.mono (by have:=hal.size;rw [hS] at this;omega))).setCell (p:=⟨S+1,0,none⟩) (by show w.heap.size≤S+1;omega) (.string s0)).setCell (p:=⟨S+1,1,none⟩) (by show w.heap.size≤S+1;omega) (.nilIface)
  go_wp2
  exact bodyPost_ret (cset_res hR2 rfl) rfl ⟨rfl,hb2⟩)
set_option maxRecDepth 100000 in
set_option maxHeartbeats 8000000 in
theorem cs_ifc (s0:ByteArray) (u:TypeId) (y:Value) (hs:s0.size≤140737488351232) (h2:∀ w1,Calls Tryz.prog 134 #[.iface u y] w1 fun e w'=>e=.returned (.iface u y)∧Below w1.heap.size w1 w'):CsC s0 (.iface u y):=by
 intro w
 have h1:=fun w1=>pClone_any s0 w1 hs
 have hal:Below w.heap.size w ((w.alloc (.cells #[.string s0,.iface u y] 136)).alloc (.cells #[.string ⟨#[]⟩,.nilIface] 136)):=((Below.refl w.heap.size w).alloc (Nat.le_refl _) _).alloc (by simp) _
 have hX:Bn ((w.alloc (.cells #[.string s0,.iface u y] 136)).alloc (.cells #[.string ⟨#[]⟩,.nilIface] 136)) w.heap.size [.string s0,.iface u y]:=(Bn.new w [.string s0,.iface u y] 136 _ rfl).on ((Below.refl _ _).alloc (Nat.le_refl _) _)
 have hR:Bn ((w.alloc (.cells #[.string s0,.iface u y] 136)).alloc (.cells #[.string ⟨#[]⟩,.nilIface] 136)) (w.heap.size+1) [.string ⟨#[]⟩,.nilIface]:=Bn.new (w.alloc (.cells #[.string s0,.iface u y] 136)) [.string ⟨#[]⟩,.nilIface] 136 _ (by simp)
 go_enter Tryz.func136,Tryz.ntmps136
 go_upto_region 1 with fail
 generalize (w.alloc (.cells #[.string s0,.iface u y] 136)).alloc (.cells #[.string ⟨#[]⟩,.nilIface] 136)=wx at *
 have hB:Below wx.heap.size wx wx:=Below.refl _ _
 obtain ⟨c0,_⟩:=hX 0 _ rfl
 obtain ⟨c1,_⟩:=hX 1 _ rfl
 have hlt:=hX.lt
 obtain ⟨S,hS⟩:∃ S,w.heap.size=S:=⟨_,rfl⟩
 rw [hS] at c0 c1 hlt hR ⊢
 go_region_held_law (fun w'=>w'.cell? ⟨S,0,none⟩=some (.string s0)∧w'.cell? ⟨S,1,none⟩=some (.iface u y))
  (first | exact ⟨(hB.cell (p:=⟨S,0,none⟩) hlt).trans c0,(hB.cell (p:=⟨S,1,none⟩) hlt).trans c1⟩ | exact ⟨cell_far4 (by omega) (cell_far4 (by omega) ((hB.cell (p:=⟨S,0,none⟩) hlt).trans c0)),cell_far4 (by omega) (cell_far4 (by omega) ((hB.cell (p:=⟨S,1,none⟩) hlt).trans c1))⟩)
  (first
   | (go_at_call 38;(with_reducible refine (h1 _).mono ?_);rintro e w1 ⟨rfl,b1⟩;(first | have hB:=Below.nxd hB b1 | have hB:=Below.nx hB b1);have hR1:=hR.on hB;obtain ⟨r0,f0⟩:=hR1 0 _ rfl;obtain ⟨r1,f1⟩:=hR1 1 _ rfl)
   | (go_at_call 134;(with_reducible refine (h2 _).mono ?_);rintro e w1 ⟨rfl,b1⟩;(first | have hB:=Below.nxd hB b1 | have hB:=Below.nx hB b1);have hR1:=hR.on hB;obtain ⟨r0,f0⟩:=hR1 0 _ rfl;obtain ⟨r1,f1⟩:=hR1 1 _ rfl)
   | fail)
 all_goals (
  have hR2:=(hR1.set (i:=0) (by simp) (.string s0)).set (i:=1) (by simp) (.iface u y)
  have hb2:=((hal.trans (hB.mono (by have:=hal.size;rw [hS] at this;omega))).setCell (p:=⟨S+1,0,none⟩) (by show w.heap.size≤S+1;omega) (.string s0)).setCell (p:=⟨S+1,1,none⟩) (by show w.heap.size≤S+1;omega) (.iface u y)
  go_wp2
  exact bodyPost_ret (cset_res hR2 rfl) rfl ⟨rfl,hb2⟩)
theorem copiedSet_any {s:List UInt8 × Sx} (h:SetOk s) (w:World):Calls Tryz.prog 136 #[.agg #[sV s.1,exX s.2]] w fun e w'=>e=.returned (.agg #[sV s.1,exX s.2])∧Below w.heap.size w w':=by
 have hx:=copX h.2
 rcases exX_form s.2 with hq | ⟨u,y,hq⟩
 ·rw [hq] at hx ⊢
  exact cs_nil _ (by show s.1.toArray.size≤_;simpa using h.1) hx w
 ·rw [hq] at hx ⊢
  exact cs_ifc _ _ _ (by show s.1.toArray.size≤_;simpa using h.1) hx w
end Go.Proofs.YtfjdceknbdmhpaaGreatDoor
