import Derived.Test.YtfjdceknbdmhpaaGreatDoorWvc03
import Derived.Test.YtfjdceknbdmhpaaGreatDoorWvc01
import Derived.Test.YtfjdceknbdmhpaaGreatDoorWvc02
import Derived.Lib.ItoaNum
/- The words of a printed expression's text. Math alone. -/
namespace Go.Proofs.YtfjdceknbdmhpaaGreatDoor
open Go.RowKit Go.Lib
set_option linter.unusedSimpArgs false
set_option linter.unusedVariables false
/-- A piece of a text: a word, or a blank. -/
abbrev Pc:=Option Tk
def pieB (p:Pc):List UInt8:=match p with | some w=>w.2 | none=>[32]
def txP (ps:List Pc):List UInt8:=(ps.map pieB).flatten
def tkP (ps:List Pc):List Tk:=ps.filterMap id
theorem txP_cons (p:Pc) (r:List Pc):txP (p :: r)=pieB p++txP r:=rfl
theorem txP_app (a b:List Pc):txP (a++b)=txP a++txP b:=by simp [txP]
theorem tkP_app (a b:List Pc):tkP (a++b)=tkP a++tkP b:=by simp [tkP]
/-- The word stands right ahead of these bytes. -/
def Fits (w:Tk) (post:List UInt8):Prop:=
 w.1≠0∧runes (w.2++post)=runes w.2++runes post∧fst1 (runes w.2++runes post)=(w.1,(runes w.2).length)∧∃ v t,runes w.2=v :: t∧v.1≠10∧v.1≠32∧v.1≠9∧v.1≠35
/-- All pieces do. -/
def FitsAll:List Pc→List UInt8→Prop
 | [],_=>True
 | none :: r,post=>FitsAll r post
 | some w :: r,post=>Fits w (txP r++post)∧FitsAll r post
theorem fits_app:∀ (a b:List Pc) (post:List UInt8),FitsAll a (txP b++post)→FitsAll b post→FitsAll (a++b) post
 | [],b,post,_,h=>h
 | none :: a,b,post,h1,h2=>fits_app a b post h1 h2
 | some w :: a,b,post,h1,h2=>by
  refine ⟨?_,fits_app a b post h1.2 h2⟩
  show Fits w (txP (a++b)++post)
  rw [txP_app,List.append_assoc]
  exact h1.1
/-- An expression's pieces. -/
def aroP (c:Nat × List Pc) (least:Nat):List Pc:=if c.1 < least then some (3,[40]) :: (c.2++[some (3,[41])]) else c.2
def pcF (dc:Int→List UInt8) (k n:Int) (s:ByteArray) (p:List (Nat × List Pc)):Nat × List Pc:=
 (if k=5 then lv s.data.toList else 6,
   if k=1 then [some (2,dc n)] else if k=2 then [some (1,s.data.toList)] else if k=3 then some (3,[33]) :: aroP (p.getD 0 (0,[])) 6 else if k=4 then some (3,[45]) :: aroP (p.getD 0 (0,[])) 6
   else aroP (p.getD 0 (0,[])) (if lv s.data.toList=3 then 4 else lv s.data.toList)++none :: some (3,s.data.toList) :: none :: aroP (p.getD 1 (0,[])) (lv s.data.toList+1))
def pcs (dc:Int→List UInt8):(d:Nat)→T d→Nat × List Pc:=fold (pcF dc)
theorem pcs_tks (dc:Int→List UInt8):∀ (d:Nat) (t:T d),(pcs dc d t).1=(tks dc d t).1∧tkP (pcs dc d t).2=(tks dc d t).2
 | 0,t=>Empty.elim t
 | d+1,t=>by
  obtain ⟨k,n,s,ps,rfl⟩:=T.open t
  have hp:∀ i,((ps.map (pcs dc d)).getD i (0,[])).1=((ps.map (tks dc d)).getD i (0,[])).1∧tkP ((ps.map (pcs dc d)).getD i (0,[])).2=((ps.map (tks dc d)).getD i (0,[])).2:=fun i=>by
   rw [List.getD_eq_getElem?_getD,List.getD_eq_getElem?_getD,List.getElem?_map,List.getElem?_map]
   cases ps[i]? with
   | none=>exact ⟨rfl,rfl⟩
   | some p=>exact pcs_tks dc d p
  have ha:∀ i m,tkP (aroP ((ps.map (pcs dc d)).getD i (0,[])) m)=aroT ((ps.map (tks dc d)).getD i (0,[])) m:=fun i m=>by
   obtain ⟨h1,h2⟩:=hp i
   unfold aroP aroT
   rw [h1]
   split
   ·show (3,[40]) :: tkP (((ps.map (pcs dc d)).getD i (0,[])).2++[some (3,[41])])=_
    rw [tkP_app,h2];rfl
   ·exact h2
  refine ⟨rfl,?_⟩
  show tkP (pcF dc k n s (ps.map (pcs dc d))).2=(tkF dc k n s (ps.map (tks dc d))).2
  unfold pcF tkF
  simp only
  by_cases k1:k=1
  ·rw [if_pos k1,if_pos k1];rfl
  rw [if_neg k1,if_neg k1]
  by_cases k2:k=2
  ·rw [if_pos k2,if_pos k2];rfl
  rw [if_neg k2,if_neg k2]
  by_cases k3:k=3
  ·rw [if_pos k3,if_pos k3]
   show (3,[33]) :: tkP (aroP _ 6)=_
   rw [ha]
  rw [if_neg k3,if_neg k3]
  by_cases k4:k=4
  ·rw [if_pos k4,if_pos k4]
   show (3,[45]) :: tkP (aroP _ 6)=_
   rw [ha]
  rw [if_neg k4,if_neg k4,tkP_app,ha]
  congr 1
  show (3,s.data.toList) :: tkP (aroP _ _)=_
  rw [ha]
theorem runes_ne:∀ (n:Nat) (l:List UInt8),l.length≤n→∀ v∈runes l,v.2≠[]
 | 0,l,h,v,hv=>by
  have:l=[]:=List.eq_nil_of_length_eq_zero (by omega)
  subst this
  rw [runes_nil] at hv;cases hv
 | n+1,l,h,v,hv=>by
  by_cases hl:l=[]
  ·subst hl;rw [runes_nil] at hv;cases hv
  ·have h1:=nx_pos hl
   have h2:=nx_le hl
   rw [runes_cons hl] at hv
   rcases List.mem_cons.1 hv with rfl | hv
   ·intro e
    have:=congrArg List.length e
    rw [List.length_take,List.length_nil] at this
    have h3:0 < l.length:=List.length_pos_iff.2 hl
    omega
   ·exact runes_ne n _ (by rw [List.length_drop];omega) v hv
theorem byt_zero:∀ (vs:List Ru),(∀ v∈vs,v.2≠[])→(byt vs).length=0→vs=[]
 | [],_,_=>rfl
 | v :: r,h,hl=>by
  rw [byt_cons,List.length_append] at hl
  have:=h v (by simp)
  exact absurd (List.eq_nil_of_length_eq_zero (by omega)) this
theorem spn_full {b:List UInt8} (h:spb b=b.length):spn (runes b)=(runes b).length:=by
 have h1:=byt_runes b.length b (Nat.le_refl _)
 have h2:byt ((runes b).take (spn (runes b)))++byt ((runes b).drop (spn (runes b)))=b:=by rw [← byt_append,List.take_append_drop,h1]
 have h3:=congrArg List.length h2
 rw [List.length_append] at h3
 unfold spb at h
 have h4:=byt_zero _ (fun v hv=>runes_ne b.length b (Nat.le_refl _) v (List.mem_of_mem_drop hv)) (by omega:(byt ((runes b).drop (spn (runes b)))).length=0)
 have h5:=spn_le (runes b)
 have h6:=congrArg List.length h4
 rw [List.length_drop] at h6
 simp at h6
 omega
/-- What stands behind: nothing, a blank or a bracket. -/
def Post (post:List UInt8):Prop:=post=[]∨∃ c r,post=c :: r∧(c=32∨c=41∨c=10)
theorem Post.fst {a post:List UInt8} (ha:a≠[]) (h:Post post):runes (a++post)=runes a++runes post∧fst1 (runes a++runes post)=fst1 (runes a):=by
 rcases h with rfl | ⟨c,r,rfl,hc⟩
 ·rw [List.append_nil,runes_nil,List.append_nil];exact ⟨rfl,rfl⟩
 ·have hc8:c.toNat < 128:=by rcases hc with rfl | rfl | rfl <;> decide
  have hr:=runes_stop a.length a (Nat.le_refl _) hc8 r
  have hne:runes a≠[]:=by rw [runes_cons ha];simp
  refine ⟨hr,?_⟩
  rw [runes_ascii hc8]
  refine fst1_stop ?_ _ _ hne
  rcases hc with rfl | rfl | rfl
  ·exact ⟨by decide,by decide,by decide,by decide⟩
  ·exact ⟨by decide,by decide,by decide,by decide⟩
  ·exact ⟨by decide,by decide,by decide,by decide⟩
theorem letter_far {r:Int} (h:letter r=true):r≠10∧r≠32∧r≠9∧r≠35∧r≠61:=by
 unfold letter at h
 rw [decide_eq_true_eq] at h
 omega
theorem dgt_far {r:Int} (h:dgt r=true):letter r=false∧r≠10∧r≠32∧r≠9∧r≠35∧r≠61:=by
 unfold dgt at h
 rw [decide_eq_true_eq] at h
 refine ⟨?_,by omega⟩
 unfold letter
 rw [decide_eq_false_iff_not]
 omega
theorem fits_name {b post:List UInt8} (hn:nameS b=true) (hp:Post post):Fits (1,b) post:=by
 unfold nameS at hn
 simp only [Bool.and_eq_true,decide_eq_true_eq,beq_iff_eq] at hn
 obtain ⟨⟨h1,h2⟩,h3⟩:=hn
 have hb:b≠[]:=fun e=>by subst e;revert h1;decide
 obtain ⟨p1,p2⟩:=hp.fst hb
 have hs:=spn_full (b:=b) (by omega)
 have hc:=runes_cons hb
 obtain ⟨f1,f2,f3,f4,_⟩:=letter_far h1
 refine ⟨by show (1:Nat)≠0;decide,p1,?_,_,_,hc,f1,f2,f3,f4⟩
 rw [p2]
 show fst1 (runes b)=(1,(runes b).length)
 rw [← hs]
 rw [hc] at h3 ⊢
 rw [fst1_cons,if_pos h1,if_pos h3]
theorem fits_shape {c:UInt8} {post:List UInt8} (h8:c.toNat < 128) (hl:letter c.toNat=false) (hd:dgt c.toNat=false) (ho:one c.toNat=1) (hf:(c.toNat:Int)≠10∧(c.toNat:Int)≠32∧(c.toNat:Int)≠9∧(c.toNat:Int)≠35) (hp:∀ v r,runes post=v :: r→pair c.toNat v.1=false):Fits (3,[c]) post:=by
 have e1:runes [c]=[((c.toNat:Int),[c])]:=by rw [runes_ascii h8,runes_nil]
 refine ⟨by show (3:Nat)≠0;decide,?_,?_,_,_,e1,hf.1,hf.2.1,hf.2.2.1,hf.2.2.2⟩
 ·show runes (c :: post)=runes [c]++runes post
  rw [runes_ascii h8,e1];rfl
 ·show fst1 (runes [c]++runes post)=(3,(runes [c]).length)
  rw [e1]
  show fst1 (((c.toNat:Int),[c]) :: runes post)=(3,1)
  rw [fst1_cons,if_neg (by rw [hl];decide),if_neg (by rw [hd];decide)]
  have hs:sgn (((c.toNat:Int),[c]) :: runes post)=1:=by
   cases hq:runes post with
   | nil=>exact ho
   | cons v r=>
    show (if pair c.toNat v.1=true then 2 else one c.toNat)=1
    rw [hp v r hq,if_neg (by decide),ho]
  rw [hs];rfl
theorem fits_open (post:List UInt8):Fits (3,[40]) post:=fits_shape (by decide) (by decide) (by decide) (by decide) (by decide) (fun v r _=>by unfold pair;rw [decide_eq_false_iff_not];simp)
theorem fits_shut (post:List UInt8):Fits (3,[41]) post:=fits_shape (by decide) (by decide) (by decide) (by decide) (by decide) (fun v r _=>by unfold pair;rw [decide_eq_false_iff_not];simp)
theorem fits_neg (post:List UInt8):Fits (3,[45]) post:=fits_shape (by decide) (by decide) (by decide) (by decide) (by decide) (fun v r _=>by unfold pair;rw [decide_eq_false_iff_not];simp)
theorem fits_not {post:List UInt8} (h:∀ v r,runes post=v :: r→v.1≠61):Fits (3,[33]) post:=fits_shape (by decide) (by decide) (by decide) (by decide) (by decide) (fun v r hv=>by
 have:=h v r hv
 unfold pair;rw [decide_eq_false_iff_not];simp [this])
theorem fits_num {b post:List UInt8} (hb:numB b=true) (hp:Post post):Fits (2,b) post∧∀ v r,runes (b++post)=v :: r→v.1≠61:=by
 have hnn:=numB_numb (l:=b) (runes b) (fun v hv=>hv)
 rw [byt_runes b.length b (Nat.le_refl _),hb] at hnn
 have hq:=hnn.symm
 have hb0:b≠[]:=fun e=>by subst e;revert hb;decide
 have hc:=runes_cons hb0
 unfold numb at hq
 simp only [Bool.and_eq_true,List.all_eq_true] at hq
 have hall:∀ v∈runes b,dgt v.1=true:=hq.1.2
 have hd:dgt (nx b).1=true:=hall ((nx b).1,b.take (nx b).2) (by rw [hc];exact List.mem_cons_self)
 obtain ⟨f0,f1,f2,f3,f4,f5⟩:=dgt_far hd
 have hsp:∀ (vs:List Ru),(∀ v∈vs,dgt v.1=true)→spn vs=vs.length:=fun vs=>by
  induction vs with
  | nil=>intro _;rfl
  | cons v r ih=>
   intro h
   unfold spn
   rw [if_pos (dgt_insd (h v (by simp))),ih (fun x hx=>h x (by simp [hx]))]
   rfl
 have hs:=hsp _ hall
 obtain ⟨p1,p2⟩:=hp.fst hb0
 refine ⟨⟨by show (2:Nat)≠0;decide,p1,?_,_,_,hc,f1,f2,f3,f4⟩,?_⟩
 ·rw [p2]
  show fst1 (runes b)=(2,(runes b).length)
  rw [hc] at hs hnn ⊢
  rw [fst1_cons,if_neg (by rw [f0];decide),if_pos hd,hs,List.take_length,← hnn,if_pos rfl]
 ·intro v r hv
  rw [p1,hc] at hv
  injection hv with h1 _
  rw [← h1];exact f5
theorem name_head {b post:List UInt8} (hn:nameS b=true) (hp:Post post):∀ v r,runes (b++post)=v :: r→v.1≠61:=by
 unfold nameS at hn
 simp only [Bool.and_eq_true] at hn
 have hb:b≠[]:=fun e=>by subst e;revert hn;decide
 intro v r hv
 rw [(hp.fst hb).1,runes_cons hb] at hv
 injection hv with h1 _
 rw [← h1];exact (letter_far hn.1.1).2.2.2.2
/-- The nine operators. -/
def opB (s:List UInt8):Prop:=s=[43]∨s=[45]∨s=[42]∨s=[60]∨s=[60,61]∨s=[61,61]∨s=[33,61]∨s=[38,38]∨s=[124,124]
theorem fits_op {s post:List UInt8} (h:opB s):Fits (3,s) (32 :: post):=by
 have hp:Post (32 :: post):=.inr ⟨32,post,rfl,.inl rfl⟩
 have key:∀ s:List UInt8,s≠[]→fst1 (runes s)=(3,(runes s).length)→(∃ v t,runes s=v :: t∧v.1≠10∧v.1≠32∧v.1≠9∧v.1≠35)→Fits (3,s) (32 :: post):=fun s h1 h2 h3=>by
  obtain ⟨p1,p2⟩:=hp.fst h1
  exact ⟨by show (3:Nat)≠0;decide,p1,p2.trans h2,h3⟩
 have one1:∀ c:UInt8,c.toNat < 128→runes [c]=[((c.toNat:Int),[c])]:=fun c h=>by rw [runes_ascii h,runes_nil]
 have two2:∀ c e:UInt8,c.toNat < 128→e.toNat < 128→runes [c,e]=[((c.toNat:Int),[c]),((e.toNat:Int),[e])]:=fun c e h h'=>by rw [runes_ascii h,runes_ascii h',runes_nil]
 rcases h with rfl | rfl | rfl | rfl | rfl | rfl | rfl | rfl | rfl
 ·exact key _ (by decide) (by rw [one1 _ (by decide)];rfl) ⟨_,_,one1 _ (by decide),by decide,by decide,by decide,by decide⟩
 ·exact key _ (by decide) (by rw [one1 _ (by decide)];rfl) ⟨_,_,one1 _ (by decide),by decide,by decide,by decide,by decide⟩
 ·exact key _ (by decide) (by rw [one1 _ (by decide)];rfl) ⟨_,_,one1 _ (by decide),by decide,by decide,by decide,by decide⟩
 ·exact key _ (by decide) (by rw [one1 _ (by decide)];rfl) ⟨_,_,one1 _ (by decide),by decide,by decide,by decide,by decide⟩
 ·exact key _ (by decide) (by rw [two2 _ _ (by decide) (by decide)];rfl) ⟨_,_,two2 _ _ (by decide) (by decide),by decide,by decide,by decide,by decide⟩
 ·exact key _ (by decide) (by rw [two2 _ _ (by decide) (by decide)];rfl) ⟨_,_,two2 _ _ (by decide) (by decide),by decide,by decide,by decide,by decide⟩
 ·exact key _ (by decide) (by rw [two2 _ _ (by decide) (by decide)];rfl) ⟨_,_,two2 _ _ (by decide) (by decide),by decide,by decide,by decide,by decide⟩
 ·exact key _ (by decide) (by rw [two2 _ _ (by decide) (by decide)];rfl) ⟨_,_,two2 _ _ (by decide) (by decide),by decide,by decide,by decide,by decide⟩
 ·exact key _ (by decide) (by rw [two2 _ _ (by decide) (by decide)];rfl) ⟨_,_,two2 _ _ (by decide) (by decide),by decide,by decide,by decide,by decide⟩
/-- Its names are names, its digits numbers, its operators operators. -/
def rtF (dc:Int→List UInt8) (k n:Int) (s:ByteArray) (p:List Prop):Prop:=(k=1→numB (dc n)=true)∧(k=2→nameS s.data.toList=true)∧(k=5→opB s.data.toList)∧(1≤k∧k≤5)∧∀ q∈p,q
def rtT (dc:Int→List UInt8):(d:Nat)→T d→Prop:=fold (rtF dc)
/-- No text begins with '='. -/
def Hd (ps:List Pc):Prop:=∀ post,Post post→∀ v r,runes (txP ps++post)=v :: r→v.1≠61
theorem post_shut (post:List UInt8):Post (41 :: post):=.inr ⟨41,post,rfl,.inr (.inl rfl)⟩
theorem post_line (post:List UInt8):Post (10 :: post):=.inr ⟨10,post,rfl,.inr (.inr rfl)⟩
theorem post_blank (post:List UInt8):Post (32 :: post):=.inr ⟨32,post,rfl,.inl rfl⟩
theorem hd_of {c:UInt8} (h8:c.toNat < 128) (h:(c.toNat:Int)≠61) (k:Nat) (r:List Pc):Hd (some (k,[c]) :: r):=fun post _ v t hv=>by
 have e:txP (some (k,[c]) :: r)++post=c :: (txP r++post):=rfl
 rw [e,runes_ascii h8] at hv
 injection hv with h1 _
 rw [← h1];exact h
theorem fits_aro {dc:Int→List UInt8} {d:Nat} {p:T d} (h:(∀ post,Post post→FitsAll (pcs dc d p).2 post)∧Hd (pcs dc d p).2) (m:Nat):(∀ post,Post post→FitsAll (aroP (pcs dc d p) m) post)∧Hd (aroP (pcs dc d p) m):=by
 unfold aroP
 split
 ·refine ⟨fun post hp=>⟨fits_open _,?_⟩,hd_of (by decide) (by decide) _ _⟩
  exact fits_app _ _ _ (h.1 _ (post_shut post)) ⟨fits_shut _,trivial⟩
 ·exact h
theorem fits_tree (dc:Int→List UInt8):∀ (d:Nat) (t:T d),Cl d t→rtT dc d t→(∀ post,Post post→FitsAll (pcs dc d t).2 post)∧Hd (pcs dc d t).2
 | 0,t,_,_=>Empty.elim t
 | d+1,t,hc,hr=>by
  rcases hc.cases with ⟨n,rfl⟩ | ⟨s,rfl⟩ | ⟨k,p,hk,rfl,hp⟩ | ⟨s,p,q,rfl,hp,hq⟩ | rfl
  ·have hn:numB (dc n)=true:=hr.1 rfl
   have e:(pcs dc (d+1) (mkT 1 n ⟨#[]⟩ []:T (d+1))).2=[some (2,dc n)]:=rfl
   rw [e]
   have ht:txP [some ((2,dc n):Tk)]=dc n:=by simp [txP,pieB]
   refine ⟨fun post hp=>⟨(fits_num hn hp).1,trivial⟩,fun post hp v r hv=>?_⟩
   rw [ht] at hv
   exact (fits_num hn hp).2 v r hv
  ·have hn:nameS s.data.toList=true:=hr.2.1 rfl
   have e:(pcs dc (d+1) (mkT 2 0 s []:T (d+1))).2=[some (1,s.data.toList)]:=rfl
   rw [e]
   have ht:txP [some ((1,s.data.toList):Tk)]=s.data.toList:=by simp [txP,pieB]
   refine ⟨fun post hp=>⟨fits_name hn hp,trivial⟩,fun post hp v r hv=>?_⟩
   rw [ht] at hv
   exact name_head hn hp v r hv
  ·have hrp:rtT dc d p:=by
    have h2:∀ z∈[fold (rtF dc) d p],z:=hr.2.2.2.2
    exact h2 (fold (rtF dc) d p) List.mem_cons_self
   obtain ⟨a1,a2⟩:=fits_aro (fits_tree dc d p hp hrp) 6
   rcases hk with rfl | rfl
   ·have e:(pcs dc (d+1) (mkT 3 0 ⟨#[]⟩ [p]:T (d+1))).2=some (3,[33]) :: aroP (pcs dc d p) 6:=rfl
    rw [e]
    exact ⟨fun post hp=>⟨fits_not (a2 post hp),a1 post hp⟩,hd_of (by decide) (by decide) _ _⟩
   ·have e:(pcs dc (d+1) (mkT 4 0 ⟨#[]⟩ [p]:T (d+1))).2=some (3,[45]) :: aroP (pcs dc d p) 6:=rfl
    rw [e]
    exact ⟨fun post hp=>⟨fits_neg _,a1 post hp⟩,hd_of (by decide) (by decide) _ _⟩
  ·have h2:∀ z∈[fold (rtF dc) d p,fold (rtF dc) d q],z:=hr.2.2.2.2
   have ho:opB s.data.toList:=hr.2.2.1 rfl
   obtain ⟨m,hm⟩:∃ m,(if lv s.data.toList=3 then 4 else lv s.data.toList)=m:=⟨_,rfl⟩
   have e:(pcs dc (d+1) (mkT 5 0 s [p,q]:T (d+1))).2=aroP (pcs dc d p) (if lv s.data.toList=3 then 4 else lv s.data.toList)++none :: some (3,s.data.toList) :: none :: aroP (pcs dc d q) (lv s.data.toList+1):=rfl
   rw [e,hm]
   obtain ⟨a1,a2⟩:=fits_aro (fits_tree dc d p hp (h2 (fold (rtF dc) d p) List.mem_cons_self)) m
   obtain ⟨b1,b2⟩:=fits_aro (fits_tree dc d q hq (h2 (fold (rtF dc) d q) (List.mem_cons_of_mem _ List.mem_cons_self))) (lv s.data.toList+1)
   refine ⟨fun post hp=>?_,fun post hp v r hv=>?_⟩
   ·exact fits_app _ _ _ (a1 _ (post_blank _)) ⟨fits_op ho,b1 post hp⟩
   ·rw [txP_app,List.append_assoc] at hv
    exact a2 _ (post_blank _) v r hv
  ·have:(1:Int)≤0∧(0:Int)≤5:=hr.2.2.2.1
   omega
theorem valB_app:∀ (a b:List UInt8) (n:Int),valB n (a++b)=valB (valB n a) b
 | [],b,n=>rfl
 | c :: a,b,n=>valB_app a b _
theorem dd_small {u:Nat} (h:u < 10):decDigits u=[UInt8.ofNat (48+u)]:=by
 rw [decDigits]
 simp [h]
theorem dd_more {u:Nat} (h:¬ u < 10):decDigits u=decDigits (u / 10)++[UInt8.ofNat (48+u % 10)]:=by
 rw [decDigits]
 simp [h]
theorem dg_nat {u:Nat} (h:u < 10):(UInt8.ofNat (48+u)).toNat=48+u:=by
 rw [UInt8.toNat_ofNat']
 omega
theorem dd_val:∀ (n u:Nat),u≤n→valB 0 (decDigits u)=(u:Int)
 | n,u,h=>by
  by_cases hu:u < 10
  ·rw [dd_small hu]
   show 10*0+(((UInt8.ofNat (48+u)).toNat:Int) - 48)=(u:Int)
   rw [dg_nat hu];omega
  ·match n with
   | 0=>omega
   | n+1=>
    have ih:=dd_val n (u / 10) (by omega)
    rw [dd_more hu,valB_app,ih]
    show 10*((u / 10:Nat):Int)+(((UInt8.ofNat (48+u % 10)).toNat:Int) - 48)=(u:Int)
    rw [dg_nat (Nat.mod_lt u (by decide))]
    omega
theorem dd_all:∀ (n u:Nat),u≤n→(decDigits u).all dB=true
 | n,u,h=>by
  have h1:∀ v,v < 10→dB (UInt8.ofNat (48+v))=true:=fun v hv=>by
   unfold dB;rw [dg_nat hv,decide_eq_true_eq];omega
  by_cases hu:u < 10
  ·rw [dd_small hu]
   show (dB (UInt8.ofNat (48+u)) && true)=true
   rw [h1 u hu];rfl
  ·match n with
   | 0=>omega
   | n+1=>
    rw [dd_more hu,List.all_append,dd_all n (u / 10) (by omega)]
    show (true && (dB (UInt8.ofNat (48+u % 10)) && true))=true
    rw [h1 (u % 10) (Nat.mod_lt u (by decide))];rfl
theorem dd_head:∀ (n u:Nat),u≤n→1≤u→((decDigits u).headD 0).toNat≠48
 | n,u,h,h1=>by
  by_cases hu:u < 10
  ·rw [dd_small hu]
   show (UInt8.ofNat (48+u)).toNat≠48
   rw [dg_nat hu];omega
  ·match n with
   | 0=>omega
   | n+1=>
    have ih:=dd_head n (u / 10) (by omega) (by omega)
    rw [dd_more hu]
    cases hq:decDigits (u / 10) with
    | nil=>
     have:=decDigits_length (u / 10)
     have h2:=nDigits_pos (u / 10)
     rw [hq] at this
     simp at this
     omega
    | cons c r=>rw [hq] at ih;exact ih
theorem nd_le:∀ (k u:Nat),1≤k→u < 10 ^ k→nDigits u≤k
 | 0,_,h,_=>by omega
 | 1,u,_,h=>by rw [nDigits_small (by simpa using h)];exact Nat.le_refl _
 | k+2,u,_,h=>by
  by_cases hu:u < 10
  ·rw [nDigits_small hu];omega
  ·rw [nDigits_big hu]
   have:u / 10 < 10 ^ (k+1):=by rw [Nat.pow_succ] at h;omega
   have:=nd_le (k+1) (u / 10) (by omega) this
   omega
/-- The digits of a number in range are a number's. -/
theorem dd_num {u:Nat} (h:u≤1000000000):numB (decDigits u)=true:=by
 have hl:=decDigits_length u
 have h1:=nDigits_pos u
 have h2:=nd_le 10 u (by decide) (by omega)
 unfold numB
 rw [dd_all u u (Nat.le_refl _),dd_val u u (Nat.le_refl _),decide_eq_true (by omega:1≤(decDigits u).length∧(decDigits u).length≤10),decide_eq_true (by omega:(u:Int)≤1000000000)]
 by_cases hu:u < 10
 ·rw [dd_small hu];simp
 ·rw [decide_eq_false (dd_head u u (Nat.le_refl _) (by omega))];rfl
/-- The reserved words. -/
def rsv13:List (List UInt8):=[[99,104,97,114,116],[118,97,114],[115,116,97,116,101],[97,108,108],[101,110,100],[100,111],[117,110,100,111],[97,116],[114,101,116,114,105,101,115],[111,110],[105,102],[103,111],[115,101,116]]
def rsvB (s:List UInt8):Bool:=rsv13.any (fun x=>s == x)
/-- No Ref's name is reserved. -/
def plC:(d:Nat)→T d→Bool:=fold (fun k _ s l=>!(decide (k=2) && rsvB s.data.toList) && l.all id)
theorem plC_mk {d:Nat} (k n:Int) (s:ByteArray) (ps:List (T d)):plC (d+1) (mkT k n s ps)=(!(decide (k=2) && rsvB s.data.toList) && ps.all (plC d)):=by
 show (!(decide (k=2) && rsvB s.data.toList) && (ps.map (plC d)).all id)=_
 rw [List.all_map];rfl
/-- A number's digits. -/
def dcN (n:Int):List UInt8:=decDigits n.toNat
theorem opr_opB {s:ByteArray} (h:opr s=true):opB s.data.toList:=by
 unfold opr ops9 at h
 simp only [List.any_cons,List.any_nil,Bool.or_false,Bool.or_eq_true,beq_iff_eq] at h
 exact h
theorem opB_lv {s:List UInt8} (h:opB s):1≤lv s:=by
 rcases h with rfl | rfl | rfl | rfl | rfl | rfl | rfl | rfl | rfl <;> decide
theorem lv_opB {s:List UInt8} (h:lv s≠0):opB s:=by
 unfold lv at h
 unfold opB
 by_cases a:s=[124,124]
 ·simp [a]
 rw [if_neg a] at h
 by_cases b:s=[38,38]
 ·simp [b]
 rw [if_neg b] at h
 by_cases c:s=[60]∨s=[60,61]∨s=[61,61]∨s=[33,61]
 ·rcases c with c | c | c | c <;> simp [c]
 rw [if_neg c] at h
 by_cases e:s=[43]∨s=[45]
 ·rcases e with e | e <;> simp [e]
 rw [if_neg e] at h
 by_cases g:s=[42]
 ·simp [g]
 rw [if_neg g] at h
 exact absurd rfl h
theorem name_far {s:List UInt8} (h:nameS s=true):lv s=0∧s≠[33]∧s≠[45]∧s≠[40]:=by
 have key:∀ c:UInt8,∀ r:List UInt8,c.toNat < 128→letter c.toNat=false→s≠c :: r:=fun c r h8 hl e=>by
  subst e
  unfold nameS at h
  simp only [Bool.and_eq_true] at h
  have h1:=h.1.1
  rw [nx_ascii h8,hl] at h1
  cases h1
 refine ⟨?_,key 33 [] (by decide) (by decide),key 45 [] (by decide) (by decide),key 40 [] (by decide) (by decide)⟩
 refine Classical.byContradiction (fun hl=>?_)
 rcases lv_opB hl with e | e | e | e | e | e | e | e | e
 ·exact key 43 [] (by decide) (by decide) e
 ·exact key 45 [] (by decide) (by decide) e
 ·exact key 42 [] (by decide) (by decide) e
 ·exact key 60 [] (by decide) (by decide) e
 ·exact key 60 [61] (by decide) (by decide) e
 ·exact key 61 [61] (by decide) (by decide) e
 ·exact key 33 [61] (by decide) (by decide) e
 ·exact key 38 [38] (by decide) (by decide) e
 ·exact key 124 [124] (by decide) (by decide) e
theorem num_far {s:List UInt8} (h:numB s=true):lv s=0∧s≠[33]∧s≠[45]∧s≠[40]:=by
 have key:∀ c:UInt8,∀ r:List UInt8,dB c=false→s≠c :: r:=fun c r hl e=>by
  subst e
  unfold numB at h
  simp only [Bool.and_eq_true,List.all_cons] at h
  have h1:=h.1.2.1
  rw [hl] at h1
  cases h1
 refine ⟨?_,key 33 [] (by decide),key 45 [] (by decide),key 40 [] (by decide)⟩
 refine Classical.byContradiction (fun hl=>?_)
 rcases lv_opB hl with e | e | e | e | e | e | e | e | e
 ·exact key 43 [] (by decide) e
 ·exact key 45 [] (by decide) e
 ·exact key 42 [] (by decide) e
 ·exact key 60 [] (by decide) e
 ·exact key 60 [61] (by decide) e
 ·exact key 61 [61] (by decide) e
 ·exact key 33 [61] (by decide) e
 ·exact key 38 [38] (by decide) e
 ·exact key 124 [124] (by decide) e
theorem okT_mk {nb:List UInt8→Int} {rsv:List UInt8→Bool} {dc:Int→List UInt8} {d:Nat} {k n:Int} {s:ByteArray} {ps:List (T d)}:okT nb rsv dc (d+1) (mkT k n s ps)↔okF nb rsv dc k n s (ps.map (okT nb rsv dc d)):=Iff.rfl
theorem rtT_mk {dc:Int→List UInt8} {d:Nat} {k n:Int} {s:ByteArray} {ps:List (T d)}:rtT dc (d+1) (mkT k n s ps)↔rtF dc k n s (ps.map (rtT dc d)):=Iff.rfl
/-- What is sound, without reserved names, has the words and the text that can be read. -/
theorem ok_sound:∀ (d:Nat) (t:T d),Cl d t→sdC d t=true→plC d t=true→okT (valB 0) rsvB dcN d t∧rtT dcN d t
 | 0,t,_,_,_=>Empty.elim t
 | d+1,t,hc,hs,hp=>by
  rcases hc.cases with ⟨n,rfl⟩ | ⟨s,rfl⟩ | ⟨k,p,hk,rfl,hcp⟩ | ⟨s,p,q,rfl,hcp,hcq⟩ | rfl
  ·rw [sdC_mk,if_pos rfl] at hs
   simp only [Bool.and_eq_true,decide_eq_true_eq] at hs
   have hn:numB (dcN n)=true:=dd_num (by omega)
   obtain ⟨f1,f2,f3,f4⟩:=num_far hn
   have hv:valB 0 (dcN n)=n:=by unfold dcN;rw [dd_val _ _ (Nat.le_refl _)];omega
   exact ⟨okT_mk.2 ⟨fun _=>⟨hv,f1,f2,f3,f4⟩,fun h=>by simp at h,fun h=>by simp at h,by decide,fun z hz=>by cases hz⟩,rtT_mk.2 ⟨fun _=>hn,fun h=>by simp at h,fun h=>by simp at h,by decide,fun z hz=>by cases hz⟩⟩
  ·rw [sdC_mk,if_neg (by decide),if_pos rfl] at hs
   rw [plC_mk] at hp
   have hr:rsvB s.data.toList=false:=by simpa using hp
   obtain ⟨f1,f2,f3,f4⟩:=name_far hs
   exact ⟨okT_mk.2 ⟨fun h=>by simp at h,fun _=>⟨hr,f1,f2,f3,f4⟩,fun h=>by simp at h,by decide,fun z hz=>by cases hz⟩,rtT_mk.2 ⟨fun h=>by simp at h,fun _=>hs,fun h=>by simp at h,by decide,fun z hz=>by cases hz⟩⟩
  ·have hsp:sdC d p=true:=by
    rw [sdC_mk,if_neg (by omega),if_neg (by omega),if_pos hk] at hs
    simpa using hs
   have hpp:plC d p=true:=by
    rw [plC_mk] at hp
    simp only [Bool.and_eq_true,List.all_cons,List.all_nil,Bool.and_true] at hp
    exact hp.2
   obtain ⟨a,b⟩:=ok_sound d p hcp hsp hpp
   refine ⟨okT_mk.2 ⟨fun h=>by omega,fun h=>by omega,fun h=>by omega,by omega,fun z hz=>?_⟩,rtT_mk.2 ⟨fun h=>by omega,fun h=>by omega,fun h=>by omega,by omega,fun z hz=>?_⟩⟩
   ·obtain ⟨x,hx,rfl⟩:=List.mem_map.1 hz
    obtain rfl:=List.mem_singleton.1 hx
    exact a
   ·obtain ⟨x,hx,rfl⟩:=List.mem_map.1 hz
    obtain rfl:=List.mem_singleton.1 hx
    exact b
  ·have hs2:opr s=true∧sdC d p=true∧sdC d q=true:=by
    rw [sdC_mk,if_neg (by omega),if_neg (by omega),if_neg (by omega),if_pos rfl] at hs
    simpa using hs
   have hp2:plC d p=true∧plC d q=true:=by
    rw [plC_mk] at hp
    simpa using hp
   obtain ⟨a,b⟩:=ok_sound d p hcp hs2.2.1 hp2.1
   obtain ⟨a',b'⟩:=ok_sound d q hcq hs2.2.2 hp2.2
   have ho:=opr_opB hs2.1
   refine ⟨okT_mk.2 ⟨fun h=>by omega,fun h=>by omega,fun _=>opB_lv ho,by omega,fun z hz=>?_⟩,rtT_mk.2 ⟨fun h=>by omega,fun h=>by omega,fun _=>ho,by omega,fun z hz=>?_⟩⟩
   ·obtain ⟨x,hx,rfl⟩:=List.mem_map.1 hz
    rcases List.mem_cons.1 hx with rfl | hx
    ·exact a
    ·obtain rfl:=List.mem_singleton.1 hx
     exact a'
   ·obtain ⟨x,hx,rfl⟩:=List.mem_map.1 hz
    rcases List.mem_cons.1 hx with rfl | hx
    ·exact b
    ·obtain rfl:=List.mem_singleton.1 hx
     exact b'
  ·unfold none0 at hs
   rw [sdC_mk] at hs
   simp at hs
/-- The runes are one word of this kind, and no more. -/
structure OneW (K:Nat) (seg:List Ru):Prop where
 k:K≠0
 f:fst1 seg=(K,seg.length)
 g:∀ v∈seg,Good v
 h:∃ v t,seg=v :: t∧v.1≠10∧v.1≠32∧v.1≠9∧v.1≠35
 l:(byt seg).length≤12000
theorem byt_take_le (rs:List Ru) (m:Nat):(byt (rs.take m)).length≤(byt rs).length:=by have:=byt_split rs m;omega
theorem byt_drop_le (rs:List Ru) (m:Nat):(byt (rs.drop m)).length≤(byt rs).length:=by have:=byt_split rs m;omega
theorem wrds_one:∀ (f:Nat) (rs:List Ru),rs.length≤f→(∀ v∈rs,v.1≠-1→Good v)→(byt rs).length≤12000→∀ (ln co:Int) (n:Nat),n≤3000→(wrds rs ln co n).2.2=0→
  (∀ w∈(wrds rs ln co n).1,OneW w.1 w.2.1)∧n+(wrds rs ln co n).1.length≤3000
 | 0,rs,h,_,_,ln,co,n,hn,_=>by
  have:rs=[]:=List.eq_nil_of_length_eq_zero (by omega)
  subst this
  exact ⟨(fun w hw=>(by cases hw)),by rw [wrds_nil];simpa using hn⟩
 | f+1,[],h,_,_,ln,co,n,hn,_=>⟨(fun w hw=>(by cases hw)),by rw [wrds_nil];simpa using hn⟩
 | f+1,v :: t,h,hg,hb,ln,co,n,hn,h0=>by
  have ht:t.length≤f:=by simp at h;omega
  have hgt:∀ v∈t,v.1≠-1→Good v:=fun x hx=>hg x (List.mem_cons_of_mem _ hx)
  have hbt:(byt t).length≤12000:=by rw [byt_cons,List.length_append] at hb;omega
  have e:=wrds_cons v t ln co n
  by_cases c1:v.1=10
  ·simp only [if_pos c1] at e
   rw [e] at h0 ⊢
   exact wrds_one f t ht hgt hbt _ _ _ hn h0
  simp only [if_neg c1] at e
  by_cases c2:v.1=32∨v.1=9
  ·simp only [if_pos c2] at e
   rw [e] at h0 ⊢
   exact wrds_one f t ht hgt hbt _ _ _ hn h0
  simp only [if_neg c2] at e
  by_cases c3:v.1=35
  ·simp only [if_pos c3] at e
   have hp:=rest_pos (t:=t) c1
   rw [e] at h0 ⊢
   exact wrds_one f _ (by rw [List.length_drop];simp;omega) (fun x hx=>hg x (List.mem_of_mem_drop hx)) (Nat.le_trans (byt_drop_le _ _) hb) _ _ _ hn h0
  simp only [if_neg c3] at e
  by_cases c4:(fst1 (v :: t)).1=0
  ·simp only [if_pos c4] at e
   rw [e] at h0;simp at h0
  simp only [if_neg c4] at e
  by_cases c5:n=3000
  ·simp only [if_pos c5] at e
   rw [e] at h0;simp at h0
  simp only [if_neg c5] at e
  obtain ⟨hm,hm2⟩:=fst1_le v t c4
  obtain ⟨hf,hgd⟩:=fst1_take c4
  rw [e] at h0 ⊢
  obtain ⟨hr0,hX⟩:=pre_ok h0
  have ih:=wrds_one f _ (by rw [List.length_drop];simp;omega) (fun x hx=>hg x (List.mem_of_mem_drop hx)) (Nat.le_trans (byt_drop_le _ _) hb) _ _ _ (by omega) hr0
  rw [hX]
  refine ⟨fun w hw=>?_,by rw [List.length_cons];omega⟩
  rcases List.mem_cons.1 hw with rfl | hw
  ·have hl:((v :: t).take (fst1 (v :: t)).2).length=(fst1 (v :: t)).2:=by rw [List.length_take];omega
   refine ⟨c4,?_,fun x hx=>hg x (List.mem_of_mem_take hx) (hgd x hx),?_,Nat.le_trans (byt_take_le _ _) hb⟩
   ·show fst1 ((v :: t).take (fst1 (v :: t)).2)=_
    rw [hf,hl]
   ·obtain ⟨m,hmm⟩:∃ m,(fst1 (v :: t)).2=m+1:=⟨(fst1 (v :: t)).2 - 1,by omega⟩
    refine ⟨v,t.take m,?_,c1,fun h=>c2 (.inl h),fun h=>c2 (.inr h),c3⟩
    show (v :: t).take (fst1 (v :: t)).2=_
    rw [hmm,List.take_succ_cons]
  ·exact ih.1 w hw
/-- Each word of a text is one; there are at most so many. -/
theorem words_one {l:List UInt8} (h:(wordsS l).2.2=0):(∀ w∈(wordsS l).1,OneW w.1 w.2.1)∧(wordsS l).1.length≤3000:=by
 by_cases hl:12000 < l.length
 ·unfold wordsS at h;rw [if_pos hl] at h;simp at h
 have e:wordsS l=wrds (runes l) 1 1 0:=by unfold wordsS;rw [if_neg hl]
 rw [e] at h ⊢
 have:=wrds_one _ _ (Nat.le_refl _) (runes_are_good _ l (Nat.le_refl _)) (by rw [byt_runes _ l (Nat.le_refl _)];omega) 1 1 0 (by omega) h
 exact ⟨this.1,by omega⟩
theorem OneW.runes {K:Nat} {seg:List Ru} (h:OneW K seg):runes (byt seg)=seg:=by
 have:=runes_goods seg [] h.g
 rw [List.append_nil,runes_nil,List.append_nil] at this
 exact this
/-- A word's text has that word alone. -/
theorem OneW.words {K:Nat} {seg:List Ru} (h:OneW K seg):wordsS (byt seg)=([(K,seg,1,1)],(0,0),0):=by
 have hr:=h.runes
 have hl:=h.l
 have hf:=h.f
 have hk:=h.k
 unfold wordsS
 rw [if_neg (by omega),hr]
 obtain ⟨v,t,e,h1,h2,h3,h4⟩:=h.h
 rw [e] at hf ⊢
 rw [wrds_cons,if_neg h1,if_neg (fun q=>q.elim h2 h3),if_neg h4,hf,if_neg hk,if_neg (by decide),List.take_length,List.drop_length,wrds_nil]
 rfl
theorem OneW.kind {K:Nat} {seg:List Ru} (h:OneW K seg):(K=1∧nameS (byt seg)=true)∨(K=2∧numB (byt seg)=true)∨(K=3∧∃ v t,seg=v :: t∧letter v.1=false∧dgt v.1=false):=by
 have hr:=h.runes
 have hf:=h.f
 have hk:=h.k
 obtain ⟨v,t,e,_⟩:=h.h
 have hbne:byt seg≠[]:=fun e0=>by rw [e0,runes_nil] at hr;rw [← hr] at e;cases e
 have hnx:(nx (byt seg)).1=v.1:=by
  have:=runes_cons hbne
  rw [hr,e] at this
  injection this with h1 _
  rw [e]
  exact (congrArg Prod.fst h1).symm
 rw [e,fst1_cons,← e] at hf
 by_cases a:letter v.1=true
 ·rw [if_pos a] at hf
  by_cases b:spn seg≤24
  ·rw [if_pos b] at hf
   injection hf with h1 h2
   left
   refine ⟨h1.symm,?_⟩
   unfold nameS
   have hs:spb (byt seg)=(byt seg).length:=by unfold spb;rw [hr,h2,List.take_length]
   rw [hnx,a,hs,hr,decide_eq_true b];simp
  ·rw [if_neg b] at hf
   injection hf with h1 _
   exact absurd h1.symm hk
 ·rw [if_neg a] at hf
  by_cases d:dgt v.1=true
  ·rw [if_pos d] at hf
   by_cases b:numb (seg.take (spn seg))=true
   ·rw [if_pos b] at hf
    injection hf with h1 h2
    right;left
    refine ⟨h1.symm,?_⟩
    rw [h2,List.take_length] at b
    rw [numB_numb (l:=byt seg) seg (fun v hv=>by rw [hr];exact hv)]
    exact b
   ·rw [if_neg b] at hf
    injection hf with h1 _
    exact absurd h1.symm hk
  ·rw [if_neg d] at hf
   by_cases b:sgn seg=0
   ·rw [if_pos b] at hf
    injection hf with h1 _
    exact absurd h1.symm hk
   ·rw [if_neg b] at hf
    injection hf with h1 _
    right;right
    exact ⟨h1.symm,v,t,e,by simpa using a,by simpa using d⟩
/-- A word as it is read: its kind, its bytes. -/
def tkW (x:Wd):Tk:=(x.1,byt x.2.1)
theorem OneW.good {K:Nat} {seg:List Ru} (h:OneW K seg):GdW1 (K,byt seg):=by
 rcases h.kind with ⟨rfl,h1⟩ | ⟨rfl,h1⟩ | ⟨rfl,_⟩
 ·obtain ⟨a,b,c,d⟩:=name_far h1
  exact ⟨.inl rfl,fun _=>⟨a,b,c,d,fun e=>by simp only at e;rw [e] at h1;revert h1;decide⟩⟩
 ·obtain ⟨a,b,c,d⟩:=num_far h1
  exact ⟨.inr (.inl rfl),fun _=>⟨a,b,c,d,fun e=>by simp only at e;rw [e] at h1;revert h1;decide⟩⟩
 ·exact ⟨.inr (.inr rfl),fun h=>absurd rfl h⟩
theorem good_all {l:List Wd} (h:∀ w∈l,OneW w.1 w.2.1):∀ w∈l.map tkW,GdW1 w:=fun w hw=>by
 obtain ⟨x,hx,rfl⟩:=List.mem_map.1 hw
 exact (h x hx).good
/-- What holds of each expression that is read, from a place to a place. -/
def BadOr (Q:Nat→Nat→Sx→Prop) (n:Nat) (r:Rd3):Prop:=(r.2.2 = -1∧Q n r.2.1 r.1)∨0≤r.2.2
section
variable {nb:List UInt8→Int} {rsv:List UInt8→Bool} {l:List Tk} {Q:Nat→Nat→Sx→Prop}
theorem lop_pos {next:Nat→Int→Rd3} {k n:Nat} {x:Sx} {b:Int} (h:0≤b):∀ G,lop l next k G (x,n,b)=(x,n,b)
 | 0=>rfl
 | G+1=>by
  unfold lop
  cases l[n]? with
  | none=>rfl
  | some w=>simp only;rw [if_neg (fun q=>by have:=q.1;omega)]
theorem lop_all {next:Nat→Int→Rd3} {k n0:Nat} (hk:1≤k) (h2:∀ n m n' w x y,l[m]?=some w→lv w.2≠0→Q n m x→Q (m+1) n' y→Q n n' (mk2 ⟨w.2.toArray⟩ x y)) (hN:∀ n,BadOr Q n (next n (-1))):∀ (G n:Nat) (x:Sx),Q n0 n x→BadOr Q n0 (lop l next k G (x,n,-1))
 | 0,n,x,hx=>.inl ⟨rfl,hx⟩
 | G+1,n,x,hx=>by
  unfold lop
  cases hw:l[n]? with
  | none=>exact .inl ⟨rfl,hx⟩
  | some w=>
   simp only
   by_cases hc:(-1:Int) < 0∧lv w.2=k
   ·rw [if_pos hc]
    have hne:lv w.2≠0:=by have:=hc.2;omega
    obtain ⟨r,hr⟩:∃ r,next (n+1) (-1)=r:=⟨_,rfl⟩
    have hb:=hN (n+1)
    rw [hr] at hb ⊢
    obtain ⟨y,n',b'⟩:=r
    rcases hb with ⟨e1,e2⟩ | e1
    ·simp only at e1 e2
     subst e1
     have hp:=h2 n0 n n' w x y hw hne hx e2
     by_cases h3:k=3
     ·rw [if_pos h3];exact .inl ⟨rfl,hp⟩
     ·rw [if_neg h3];exact lop_all hk h2 hN G n' _ hp
    ·simp only at e1
     by_cases h3:k=3
     ·rw [if_pos h3];exact .inr e1
     ·rw [if_neg h3,lop_pos e1];exact .inr e1
   ·rw [if_neg hc];exact .inl ⟨rfl,hx⟩
theorem psr_all (h0:∀ n w x,l[n]?=some w→leafY nb rsv w=some x→Q n (n+1) x) (h1:∀ n n' k x,k=3∨k=4→Q (n+1) n' x→Q n n' (mk1 k x)) (h2:∀ n m n' w x y,l[m]?=some w→lv w.2≠0→Q n m x→Q (m+1) n' y→Q n n' (mk2 ⟨w.2.toArray⟩ x y))
  (h3:∀ n n' x,Q (n+1) n' x→Q n (n'+1) x):∀ (f k n:Nat),1≤k→k≤6→BadOr Q n (psr nb rsv l f k n (-1))
 | 0,k,n,_,_=>.inr (by show (0:Int)≤if (-1:Int) < 0 then (n:Int) else -1;rw [if_pos (by decide)];omega)
 | f+1,k,n,hk,hk6=>by
  by_cases h6:k=6
  ·subst h6
   cases hw:l[n]? with
   | none=>rw [psr6_end hw];exact .inr (by show (0:Int)≤(n:Int);omega)
   | some w=>
    by_cases hu:w.2=[33]∨w.2=[45]
    ·rw [psr6_un hw hu]
     rcases psr_all h0 h1 h2 h3 f 6 (n+1) (by omega) (by omega) with ⟨e1,e2⟩ | e1
     ·exact .inl ⟨e1,h1 _ _ _ _ (by split <;> simp) e2⟩
     ·exact .inr e1
    ·by_cases h40:w.2=[40]
     ·rw [psr6_par hw h40]
      rcases psr_all h0 h1 h2 h3 f 1 (n+1) (by omega) (by omega) with ⟨e1,e2⟩ | e1
      ·split
       ·exact .inl ⟨e1,h3 _ _ _ e2⟩
       ·refine .inr ?_
        show (0:Int)≤if _ < (0:Int) then _ else _
        rw [e1,if_pos (by decide)];omega
      ·rw [if_neg (by unfold isT;simp only [Bool.and_eq_true,decide_eq_true_eq];omega)]
       refine .inr ?_
       show (0:Int)≤if _ < (0:Int) then _ else _
       rw [if_neg (by omega)];exact e1
     ·rw [psr6_leaf hw hu h40]
      cases hlf:leafY nb rsv w with
      | some x=>exact .inl ⟨rfl,h0 n w x hw hlf⟩
      | none=>exact .inr (by show (0:Int)≤(n:Int);omega)
  ·rw [psr,if_neg h6]
   obtain ⟨r,hr⟩:∃ r,psr nb rsv l f (k+1) n (-1)=r:=⟨_,rfl⟩
   have hb:=psr_all h0 h1 h2 h3 f (k+1) n (by omega) (by omega)
   rw [hr] at hb ⊢
   obtain ⟨y,n',b'⟩:=r
   rcases hb with ⟨e1,e2⟩ | e1
   ·simp only at e1 e2
    subst e1
    exact lop_all hk h2 (fun m=>psr_all h0 h1 h2 h3 f (k+1) m (by omega) (by omega)) _ _ _ e2
   ·simp only at e1
    rw [lop_pos e1];exact .inr e1
end
def cntX (x:Sx):Nat:=cnt x.1 x.2
theorem cntX_mk2 (s:ByteArray) (x y:Sx):cntX (mk2 s x y)=cntX x+(cntX y+0)+1:=foldS_mk2 (fun (_ _:Int) (_:ByteArray) (l:List Nat)=>l.sum+1) s x y
/-- What is read of words: clean, sound, without reserved names, short. -/
structure Fine (x:Sx):Prop where
 cl:ClX x
 sd:sdC x.1 x.2=true
 pl:plC x.1 x.2=true
 sh:shrt 1000 x.1 x.2=true
theorem lv_opr {s:List UInt8} (h:lv s≠0):opr ⟨s.toArray⟩=true∧s.length≤2:=by
 have:=lv_opB h
 rcases this with rfl | rfl | rfl | rfl | rfl | rfl | rfl | rfl | rfl <;> exact ⟨by decide,by decide⟩
theorem nx4 {l:List UInt8} (h:l≠[]):(nx l).2≤4:=by
 rw [nx_size h,decodeL_N]
 generalize (l.getD 0 0).toNat=b0
 generalize (l.getD 1 0).toNat=b1
 generalize (l.getD 2 0).toNat=b2
 generalize (l.getD 3 0).toNat=b3
 generalize l.length=n
 unfold decodeN
 repeat' split
 all_goals simp
theorem rune4:∀ (n:Nat) (l:List UInt8),l.length≤n→∀ v∈runes l,v.2.length≤4
 | 0,l,h,v,hv=>by
  have:l=[]:=List.eq_nil_of_length_eq_zero (by omega)
  subst this;cases hv
 | n+1,l,h,v,hv=>by
  by_cases hl:l=[]
  ·subst hl;rw [runes_nil] at hv;cases hv
  ·have h1:=nx_pos hl
   have h4:=nx4 hl
   rw [runes_cons hl] at hv
   rcases List.mem_cons.1 hv with rfl | hv
   ·rw [List.length_take];omega
   ·exact rune4 n _ (by rw [List.length_drop];omega) v hv
theorem byt4:∀ (vs:List Ru),(∀ v∈vs,v.2.length≤4)→(byt vs).length≤4*vs.length
 | [],_=>by simp [byt]
 | v :: r,h=>by
  have h1:=h v (by simp)
  have h2:=byt4 r (fun x hx=>h x (by simp [hx]))
  rw [byt_cons,List.length_append,List.length_cons];omega
theorem name_len {b:List UInt8} (h:nameS b=true):b.length≤96:=by
 unfold nameS at h
 simp only [Bool.and_eq_true,decide_eq_true_eq,beq_iff_eq] at h
 have h1:spb b≤4*((runes b).take (spn (runes b))).length:=byt4 _ (fun v hv=>rune4 _ b (Nat.le_refl _) v (List.mem_of_mem_take hv))
 rw [List.length_take] at h1
 omega
theorem num_len {b:List UInt8} (h:numB b=true):b.length≤10∧0≤valB 0 b∧valB 0 b≤1000000000:=by
 unfold numB at h
 simp only [Bool.and_eq_true,decide_eq_true_eq] at h
 have hv:∀ (b:List UInt8) (n:Int),0≤n→b.all dB=true→0≤valB n b:=fun b=>by
  induction b with
  | nil=>intro n hn _;exact hn
  | cons c r ih=>
   intro n hn hb
   simp only [List.all_cons,Bool.and_eq_true] at hb
   have hd:48≤c.toNat∧c.toNat≤57:=of_decide_eq_true hb.1
   exact ih _ (by omega) hb.2
 refine ⟨?_,?_,?_⟩
 all_goals first | omega | exact hv b 0 (by omega) (by simp_all) | simp_all
theorem fine_read {l:List Wd} (h:∀ w∈l,OneW w.1 w.2.1) (f k n:Nat) (hk:1≤k) (hk6:k≤6):BadOr (fun n n' x=>Fine x∧n+cntX x≤n') n (psr (valB 0) rsvB (l.map tkW) f k n (-1)):=by
 refine psr_all (fun n w x hw0 hx=>⟨?_,?_⟩) (fun n n' k x hk hq=>⟨?_,?_⟩) (fun n m n' w x y hw0 hne hq hq'=>⟨?_,?_⟩) (fun n n' x hq=>⟨hq.1,by have:=hq.2;omega⟩) f k n hk hk6
 ·have hw:=List.mem_of_getElem? hw0
  obtain ⟨u,hu,rfl⟩:=List.mem_map.1 hw
  unfold leafY tkW at hx
  simp only at hx
  by_cases h2:u.1=2
  ·rw [if_pos h2] at hx
   obtain rfl:=Option.some.inj hx
   have hn:numB (byt u.2.1)=true:=by
    rcases (h u hu).kind with ⟨a,_⟩ | ⟨_,b⟩ | ⟨a,_⟩
    ·omega
    ·exact b
    ·omega
   obtain ⟨_,a,b⟩:=num_len hn
   refine ⟨.inl ⟨rfl,rfl,rfl⟩,?_,rfl,by rfl⟩
   show (decide (0≤valB 0 (byt u.2.1)) && decide (valB 0 (byt u.2.1)≤1000000000))=true
   rw [decide_eq_true a,decide_eq_true b];rfl
  ·rw [if_neg h2] at hx
   by_cases h1:u.1=1∧rsvB (byt u.2.1)=false
   ·rw [if_pos h1] at hx
    obtain rfl:=Option.some.inj hx
    have hn:nameS (byt u.2.1)=true:=by
     rcases (h u hu).kind with ⟨_,b⟩ | ⟨a,_⟩ | ⟨a,_⟩
     ·exact b
     ·omega
     ·omega
    have hl:=name_len hn
    refine ⟨.inr (.inl ⟨rfl,rfl,rfl⟩),?_,?_,?_⟩
    ·show nameS (bl ⟨(byt u.2.1).toArray⟩)=true
     exact hn
    ·show (!(decide ((2:Int)=2) && rsvB (byt u.2.1)) && [].all id)=true
     rw [h1.2];rfl
    ·show (decide ((byt u.2.1).toArray.size≤1000) && [].all id)=true
     rw [decide_eq_true (by simp;omega)];rfl
   ·rw [if_neg h1] at hx;cases hx
 ·unfold leafY at hx
  have:cntX x=1:=by
   split at hx
   ·obtain rfl:=Option.some.inj hx;rfl
   ·split at hx
    ·obtain rfl:=Option.some.inj hx;rfl
    ·cases hx
  omega
 ·have hx:=hq.1
  refine ⟨cl_mk1 hk hx.cl,?_,?_,?_⟩
  ·have:sdC (mk1 k x).1 (mk1 k x).2=true:=by
    show sdC (x.1+1) (mkT k 0 ⟨#[]⟩ [x.2])=true
    rw [sdC_mk,if_neg (by omega),if_neg (by omega),if_pos hk]
    simp [hx.sd]
   exact this
  ·show plC (x.1+1) (mkT k 0 ⟨#[]⟩ [x.2])=true
   rw [plC_mk,decide_eq_false (by omega:¬ k=2)]
   simp [hx.pl]
  ·show shrt 1000 (x.1+1) (mkT k 0 ⟨#[]⟩ [x.2])=true
   rw [shrt_mk,size0]
   simp [hx.sh]
 ·have e:cntX (mk1 k x)=cntX x+0+1:=rfl
  have:=hq.2
  omega
 ·have hx:=hq.1
  have hy:=hq'.1
  obtain ⟨ho,hl2⟩:=lv_opr hne
  refine ⟨cl_mk2 hx.cl hy.cl,?_,?_,?_⟩
  ·have:=foldS_mk2 (fun (k n:Int) (s:ByteArray) (l:List Bool)=>if k=1 then decide (0≤n) && decide (n≤1000000000) else if k=2 then nameS (bl s) else if k=3∨k=4 then l.all id else if k=5 then opr s && l.all id else false) ⟨w.2.toArray⟩ x y
   refine Eq.trans this ?_
   rw [if_neg (by decide),if_neg (by decide),if_neg (by decide),if_pos rfl,ho]
   show (true && (sdC x.1 x.2 && (sdC y.1 y.2 && true)))=true
   rw [hx.sd,hy.sd];rfl
  ·have:=foldS_mk2 (fun (k _:Int) (s:ByteArray) (l:List Bool)=>!(decide (k=2) && rsvB s.data.toList) && l.all id) ⟨w.2.toArray⟩ x y
   refine Eq.trans this ?_
   show (!(false && _) && (plC x.1 x.2 && (plC y.1 y.2 && true)))=true
   rw [hx.pl,hy.pl];rfl
  ·have:=foldS_mk2 (fun (_ _:Int) (s:ByteArray) (l:List Bool)=>decide (s.size≤1000) && l.all id) ⟨w.2.toArray⟩ x y
   refine Eq.trans this ?_
   show (decide ((w.2.toArray).size≤1000) && (shrt 1000 x.1 x.2 && (shrt 1000 y.1 y.2 && true)))=true
   rw [hx.sh,hy.sh,decide_eq_true (by simp;omega)];rfl
 ·have h1:=hq.2
  have h2:=hq'.2
  rw [cntX_mk2]
  omega
section
variable {nb:List UInt8→Int} {rsv:List UInt8→Bool} {l:List Tk}
theorem psr_up (f k n:Nat) (hk:1≤k) (hk6:k≤6):BadOr (fun n n' _=>n < n') n (psr nb rsv l f k n (-1)):=
 psr_all (fun n w x _ _=>Nat.lt_succ_self n) (fun n n' k x _ h=>by omega) (fun n m n' w x y _ _ h h'=>by omega) (fun n n' x h=>by omega) f k n hk hk6
theorem lop_same {next next':Nat→Int→Rd3} {k n0:Nat} (hN:∀ n,n0≤n→n < l.length→next (n+1) (-1)=next' (n+1) (-1)) (hU:∀ n,BadOr (fun n n' _=>n < n') n (next n (-1))):∀ (G n:Nat) (x:Sx),n0≤n→lop l next k G (x,n,-1)=lop l next' k G (x,n,-1)
 | 0,n,x,_=>rfl
 | G+1,n,x,h=>by
  unfold lop
  cases hw:l[n]? with
  | none=>rfl
  | some w=>
   have hlt:=(List.getElem?_eq_some_iff.1 hw).1
   simp only
   rw [hN n h hlt]
   by_cases hc:(-1:Int) < 0∧lv w.2=k
   ·rw [if_pos hc,if_pos hc]
    by_cases h3:k=3
    ·rw [if_pos h3,if_pos h3]
    ·rw [if_neg h3,if_neg h3]
     obtain ⟨r,hr⟩:∃ r,next' (n+1) (-1)=r:=⟨_,rfl⟩
     have hb:=hU (n+1)
     rw [hN n h hlt,hr] at hb
     rw [hr]
     obtain ⟨y,n',b'⟩:=r
     rcases hb with ⟨e1,e2⟩ | e1
     ·simp only at e1 e2
      subst e1
      exact lop_same hN hU G n' _ (by omega)
     ·simp only at e1
      rw [lop_pos e1,lop_pos e1]
   ·rw [if_neg hc,if_neg hc]
theorem psr_lev {f k n:Nat} {b:Int} (h:¬ k=6):psr nb rsv l (f+1) k n b=lop l (psr nb rsv l f (k+1)) k l.length (psr nb rsv l f (k+1) n b):=by rw [psr,if_neg h]
theorem psr_more:∀ (f k n:Nat),1≤k→k≤6→7*(l.length - n)+(6 - k) < f→psr nb rsv l (f+1) k n (-1)=psr nb rsv l f k n (-1)
 | 0,k,n,_,_,h=>absurd h (Nat.not_lt_zero _)
 | f+1,k,n,hk,hk6,h=>by
  by_cases h6:k=6
  ·subst h6
   cases hw:l[n]? with
   | none=>rw [psr6_end hw,psr6_end hw]
   | some w=>
    have hlt:=(List.getElem?_eq_some_iff.1 hw).1
    by_cases hu:w.2=[33]∨w.2=[45]
    ·rw [psr6_un hw hu,psr6_un hw hu,psr_more f 6 (n+1) (by omega) (by omega) (by omega)]
    ·by_cases h40:w.2=[40]
     ·rw [psr6_par hw h40,psr6_par hw h40,psr_more f 1 (n+1) (by omega) (by omega) (by omega)]
     ·rw [psr6_leaf hw hu h40,psr6_leaf hw hu h40]
  ·rw [psr_lev h6,psr_lev h6,psr_more f (k+1) n (by omega) (by omega) (by omega)]
   obtain ⟨r,hr⟩:∃ r,psr nb rsv l f (k+1) n (-1)=r:=⟨_,rfl⟩
   have hb:=psr_up (nb:=nb) (rsv:=rsv) (l:=l) f (k+1) n (by omega) (by omega)
   rw [hr] at hb ⊢
   obtain ⟨y,n',b'⟩:=r
   rcases hb with ⟨e1,e2⟩ | e1
   ·simp only at e1 e2
    subst e1
    exact lop_same (n0:=n) (fun m hm hml=>psr_more f (k+1) (m+1) (by omega) (by omega) (by omega)) (fun m=>psr_up (f+1) (k+1) m (by omega) (by omega)) _ _ _ (by omega)
   ·simp only at e1
    rw [lop_pos e1,lop_pos e1]
theorem psr_same {k n f:Nat} (hk:1≤k) (hk6:k≤6) (h:7*(l.length - n)+(6 - k) < f):∀ j,psr nb rsv l (f+j) k n (-1)=psr nb rsv l f k n (-1)
 | 0=>rfl
 | j+1=>(psr_more (f+j) k n hk hk6 (by omega)).trans (psr_same hk hk6 h j)
end
def fmX (x:Sx):Bool:=fmC x.1 x.2
/-- What the words are read as. -/
def rdC (l:List Tk):Rd3:=psr (valB 0) rsvB l (7*l.length+6) 1 0 (-1)
/-- The expression that the words begin with, how many of them it is, or an error. -/
def takeC (l:List Tk):Sx × Nat × Int:=if 0≤(rdC l).2.2 then (noX,(rdC l).2.2.toNat,12) else if fmX (rdC l).1=true then ((rdC l).1,(rdC l).2.1,0) else (noX,0,13)
theorem Alk.fm {x:Sx} {d:Nat} {t:T d} (h:Alk x t):fmX x=fmC d t:=by
 unfold fmX fmC
 have h1:ndC x.1 x.2=ndC d t:=h.1 _ _
 have h2:dpC x.1 x.2=dpC d t:=h.1 _ _
 have h3:sdC x.1 x.2=sdC d t:=h.1 _ _
 rw [h1,h2,h3]
theorem aroP_len (c:Nat × List Pc) (m:Nat):(txP (aroP c m)).length≤(txP c.2).length+2:=by
 unfold aroP;split
 ·rw [txP_cons,txP_app,List.length_append,List.length_append]
  show 1+(_+1)≤_
  omega
 ·omega
theorem op_len {s:List UInt8} (h:opB s):s.length≤2:=by
 rcases h with rfl | rfl | rfl | rfl | rfl | rfl | rfl | rfl | rfl <;> decide
theorem pcs_len:∀ (d:Nat) (t:T d),Cl d t→rtT dcN d t→(txP (pcs dcN d t).2).length≤100*cnt d t
 | 0,t,_,_=>Empty.elim t
 | d+1,t,hc,hr=>by
  rcases hc.cases with ⟨n,rfl⟩ | ⟨s,rfl⟩ | ⟨k,p,hk,rfl,hp⟩ | ⟨s,p,q,rfl,hp,hq⟩ | rfl
  ·have hn:numB (dcN n)=true:=hr.1 rfl
   have:=(num_len hn).1
   show (dcN n++[]).length≤100*1
   rw [List.append_nil];omega
  ·have hn:nameS s.data.toList=true:=hr.2.1 rfl
   have:=name_len hn
   show (s.data.toList++[]).length≤100*1
   rw [List.append_nil];omega
  ·have hrp:rtT dcN d p:=by
    have h2:∀ z∈[fold (rtF dcN) d p],z:=hr.2.2.2.2
    exact h2 (fold (rtF dcN) d p) List.mem_cons_self
   have ih:=pcs_len d p hp hrp
   have ha:=aroP_len (pcs dcN d p) 6
   have e:(txP (pcs dcN (d+1) (mkT k 0 ⟨#[]⟩ [p]:T (d+1))).2).length=(txP (aroP (pcs dcN d p) 6)).length+1:=by rcases hk with rfl | rfl <;> rfl
   rw [e,cnt_mk]
   show _≤100*(cnt d p+0+1)
   omega
  ·have h2:∀ z∈[fold (rtF dcN) d p,fold (rtF dcN) d q],z:=hr.2.2.2.2
   have ho:s.data.toList.length≤2:=op_len (hr.2.2.1 rfl:opB s.data.toList)
   have i1:=pcs_len d p hp (h2 (fold (rtF dcN) d p) List.mem_cons_self)
   have i2:=pcs_len d q hq (h2 (fold (rtF dcN) d q) (List.mem_cons_of_mem _ List.mem_cons_self))
   have a1:=aroP_len (pcs dcN d p) (if lv s.data.toList=3 then 4 else lv s.data.toList)
   have a2:=aroP_len (pcs dcN d q) (lv s.data.toList+1)
   have e:(pcs dcN (d+1) (mkT 5 0 s [p,q]:T (d+1))).2=aroP (pcs dcN d p) (if lv s.data.toList=3 then 4 else lv s.data.toList)++none :: some (3,s.data.toList) :: none :: aroP (pcs dcN d q) (lv s.data.toList+1):=rfl
   rw [e,cnt_mk,txP_app,txP_cons,txP_cons,txP_cons,List.length_append,List.length_append,List.length_append,List.length_append]
   show _+(1+(s.data.toList.length+(1+_)))≤100*(cnt d p+(cnt d q+0)+1)
   omega
  ·have:(1:Int)≤0∧(0:Int)≤5:=hr.2.2.2.1
   omega
theorem nd_cnt:∀ (d:Nat) (t:T d),ndC d t=min (cnt d t) 41
 | 0,t=>Empty.elim t
 | d+1,t=>by
  obtain ⟨k,n,s,ps,rfl⟩:=T.open t
  rw [ndC_mk,cnt_mk]
  have:∀ l:List (T d),min ((l.map (ndC d)).sum+1) 41=min ((l.map (cnt d)).sum+1) 41:=fun l=>by
   induction l with
   | nil=>rfl
   | cons p r ih=>
    have:=nd_cnt d p
    simp only [List.map_cons,List.sum_cons]
    omega
  exact this ps
theorem fm_parts {d:Nat} {t:T d} (h:fmC d t=true):cnt d t≤40∧sdC d t=true:=by
 unfold fmC at h
 simp only [Bool.and_eq_true,decide_eq_true_eq] at h
 have:=nd_cnt d t
 exact ⟨by omega,h.2⟩
/-- The text of an expression. -/
def txtC (d:Nat) (t:T d):List UInt8:=txP (pcs dcN d t).2
theorem er_words {l:List UInt8} {ts:List Tk} (h:er (wordsS l)=(ts.map (fun w=>(w.1,runes w.2)),0)):(wordsS l).2.2=0∧(wordsS l).1.map tkW=ts:=by
 refine ⟨congrArg Prod.snd h,?_⟩
 have h1:(wordsS l).1.map (fun w=>(w.1,w.2.1))=ts.map (fun w=>(w.1,runes w.2)):=congrArg Prod.fst h
 have h2:=congrArg (List.map (fun x:Nat × List Ru=>(x.1,byt x.2))) h1
 rw [List.map_map,List.map_map] at h2
 have e:ts.map ((fun x:Nat × List Ru=>(x.1,byt x.2)) ∘ fun w=>(w.1,runes w.2))=ts:=by
  have:∀ w∈ts,((fun x:Nat × List Ru=>(x.1,byt x.2)) ∘ fun w:Tk=>(w.1,runes w.2)) w=id w:=fun w _=>by
   show (w.1,byt (runes w.2))=w
   rw [byt_runes _ _ (Nat.le_refl _)]
  rw [List.map_congr_left this,List.map_id]
 rw [e] at h2
 exact h2
end Go.Proofs.YtfjdceknbdmhpaaGreatDoor
