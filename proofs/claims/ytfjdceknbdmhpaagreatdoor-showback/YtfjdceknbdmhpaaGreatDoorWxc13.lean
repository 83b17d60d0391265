import Derived.Test.YtfjdceknbdmhpaaGreatDoorWxc12
import Derived.Test.YtfjdceknbdmhpaaGreatDoorWxc11
import Derived.Test.YtfjdceknbdmhpaaGreatDoorWxc10
import Derived.Test.YtfjdceknbdmhpaaGreatDoorWxc03
import Derived.Test.YtfjdceknbdmhpaaGreatDoorWxc01
import Derived.Test.YtfjdceknbdmhpaaGreatDoorWxc07
set_option maxRecDepth 100000
set_option maxHeartbeats 32000000
namespace Go.Proofs.YtfjdceknbdmhpaaGreatDoor
open Go.RowKit Go.Lib
set_option linter.unusedSimpArgs false
set_option linter.unusedVariables false
attribute [local go_sem ↓] Go.wp_at_zero Go.wp_at_succ
theorem val_dc {n:Int}(h:0<=n):valB 0 (dcN n)=n:=by
 unfold dcN
 rw [dd_val n.toNat n.toNat Nat.le.refl]
 omega
def Knd (ts:List Tk):Prop:=∀ w r,ts=w :: r->w.2≠wAll/\w.2≠wEnd/\w.2≠wDo
theorem is_not {r:RsC}{ts:List Tk}(h:AtT r ts) {s:List UInt8}(hn:∀ w t,ts=w :: t->w.2≠s):isC s r=false:=by
 cases ts with
 | nil=>
  have:r.1=[]:=by simpa using h.1
  unfold isC
  rw [this];simp
 | cons w t=>
  obtain ⟨k,s⟩:=w
  rw [is_at h]
  exact decide_eq_false (hn _ _ rfl)
def kndT (h:HdC):List Tk:=
 if h.2.1.1=true then [(1,wAll)] else if h.2.1.2=true then [(1,wEnd)] else
 if h.2.2.1.1≠[] then [(1,wDo),(1,h.2.2.1.1),(1,wUndo),(1,h.2.2.1.2),(1,wAt),(2,dcN h.2.2.2.1.1),(1,wRetries),(2,dcN h.2.2.2.1.2)] else []
theorem tkQ_knd (n:Nat) (h:HdC):tkQ (kndQ n h)=kndT h:=by
 unfold kndQ kndT
 split
 ·rw [tkQ_app,tkQ_tb];rfl
 ·split
  ·rw [tkQ_app,tkQ_tb];rfl
  ·split
   ·rw [tkQ_app,tkQ_tb];rfl
   ·rfl
theorem step_no {h:HdC}(hs:stepB h=false):h.2.2.1=([],[])/\h.2.2.2.1=(0,0):=by
 unfold stepB at hs
 simp only [Bool.not_eq_false',Bool.and_eq_true,decide_eq_true_eq] at hs
 obtain ⟨⟨⟨a,b⟩,c⟩,d⟩:=hs
 exact ⟨Prod.ext a b,Prod.ext c d⟩
theorem kind_at {r:RsC}{h:HdC}{ts:List Tk}(ha:AtT r (kndT h++ts)) (hf:kndF h=true) (hk:Knd ts) (fin:Pl):(kindR fin r).1=(h.2.1,h.2.2.1,h.2.2.2.1)/\AtT (kindR fin r).2 ts:=by
 unfold kndT at ha
 by_cases hA:h.2.1.1=true
 ·rw [if_pos hA] at ha
  have ha:AtT r ((1,wAll) :: ts):=ha
  have hs:stepB h=false:=by
   cases hb:stepB h with
   | false=>rfl
   | true=>have:=(kndF_step hf hb).1;rw [hA] at this;cases this
  obtain ⟨s1,s2⟩:=step_no hs
  have hE:h.2.1.2=false:=by
   unfold kndF at hf
   rw [hs,if_neg (by decide),hA] at hf
   simpa using hf
  unfold kindR
  rw [if_pos (by rw [is_at ha,decide_eq_true rfl])]
  refine ⟨?_,take_at ha fin⟩
  rw [s1,s2]
  exact Prod.ext (Prod.ext hA.symm hE.symm) rfl
 ·rw [if_neg hA] at ha
  have hA:h.2.1.1=false:=by simpa using hA
  by_cases hE:h.2.1.2=true
  ·rw [if_pos hE] at ha
   have ha:AtT r ((1,wEnd) :: ts):=ha
   have hs:stepB h=false:=by
    cases hb:stepB h with
    | false=>rfl
    | true=>have:=(kndF_step hf hb).2.1;rw [hE] at this;cases this
   obtain ⟨s1,s2⟩:=step_no hs
   unfold kindR
   rw [if_neg (by rw [is_at ha];decide),if_pos (by rw [is_at ha,decide_eq_true rfl])]
   refine ⟨?_,take_at ha fin⟩
   rw [s1,s2]
   exact Prod.ext (Prod.ext hA.symm hE.symm) rfl
  ·rw [if_neg hE] at ha
   have hE:h.2.1.2=false:=by simpa using hE
   by_cases hD:h.2.2.1.1≠[]
   ·rw [if_pos hD] at ha
    obtain ⟨_,_,h3,h4,h5,h6⟩:=kndF_step hf (step_do hD)
    have ha:AtT r ((1,wDo) :: (1,h.2.2.1.1) :: (1,wUndo) :: (1,h.2.2.1.2) :: (1,wAt) :: (2,dcN h.2.2.2.1.1) :: (1,wRetries) :: (2,dcN h.2.2.2.1.2) :: ts):=ha
    unfold kindR
    rw [if_neg (by rw [is_at ha];decide),if_neg (by rw [is_at ha];decide),if_pos (by rw [is_at ha,decide_eq_true rfl])]
    simp only
    have a1:=take_at ha fin
    obtain ⟨n1,a2⟩:=name_at a1 h3 fin
    have a3:=take_at a2 fin
    obtain ⟨n2,a4⟩:=name_at a3 h4 fin
    have a5:=take_at a4 fin
    obtain ⟨n3,a6⟩:=num_at a5 fin
    have a7:=take_at a6 fin
    obtain ⟨n4,a8⟩:=num_at a7 fin
    rw [val_dc (nb_of h5).1] at n3
    rw [val_dc (nb_of h6).1] at n4
    refine ⟨?_,a8⟩
    rw [n1,n2,n3,n4]
    exact Prod.ext (Prod.ext hA.symm hE.symm) rfl
   ·rw [if_neg hD] at ha
    have ha:AtT r ts:=ha
    have hD:h.2.2.1.1=[]:=by simpa using hD
    have hs:stepB h=false:=by
     cases hb:stepB h with
     | false=>rfl
     | true=>
      have:=plain_name (kndF_step hf hb).2.2.1
      rw [hD] at this
      revert this;decide
    obtain ⟨s1,s2⟩:=step_no hs
    unfold kindR
    rw [if_neg (by rw [is_not ha (fun w t e=>(hk w t e).1)];decide),if_neg (by rw [is_not ha (fun w t e=>(hk w t e).2.1)];decide),if_neg (by rw [is_not ha (fun w t e=>(hk w t e).2.2)];decide)]
    refine ⟨?_,ha⟩
    rw [s1,s2]
    exact Prod.ext (Prod.ext hA.symm hE.symm) rfl
theorem len_le_at {r:RsC}{ts:List Tk}(h:AtT r ts):r.1.length=ts.length:=by rw [<- h.1,List.length_map]
section
variable {α β:Type}(fin:Pl) (inner:RsC->α × RsC) (f:β->List Tk) (R:β->α->Prop)
theorem ins_at (ts:List Tk):∀ (ss:List β) (g:Nat) (os:List OnC) (acc:List α) (r:RsC),(∀ x∈ss,(∃ u,f x=(1,wState) :: u)/\∀ r' ts',AtT r' (f x++ts')->R x (inner r').1/\AtT (inner r').2 ts')->ss.length < g->AtT r ((ss.map f).flatten++(3,[125]) :: ts)->
  ∃ ss',(inR fin inner g os acc r).1=(os,acc++ss')/\L2 R ss ss'/\AtT (inR fin inner g os acc r).2 ((3,[125]) :: ts)
 | _,0,_,_,_,_,hg,_=>by omega
 | [],g+1,os,acc,r,_,_,h=>by
  have h:AtT r ((3,[125]) :: ts):=h
  have e:inR fin inner (g+1) os acc r=((os,acc),r):=by
   show (if r.2.2=0/\isC [125] r=false then _ else _)=_
   rw [if_neg (fun q=>by have:=q.2;rw [is_at h,decide_eq_true rfl] at this;cases this)]
  rw [e]
  exact ⟨[],by simp,trivial,h⟩
 | x :: ss,g+1,os,acc,r,hi,hg,h=>by
  obtain ⟨⟨u,hu⟩,hx⟩:=hi x List.mem_cons_self
  rw [List.map_cons,List.flatten_cons,List.append_assoc] at h
  obtain ⟨h1,h2⟩:=hx r _ h
  have h':=h
  rw [hu] at h'
  have h':AtT r ((1,wState) :: (u++((ss.map f).flatten++(3,[125]) :: ts))):=h'
  have e:inR fin inner (g+1) os acc r=inR fin inner g os (acc++[(inner r).1]) (inner r).2:=by
   show (if r.2.2=0/\isC [125] r=false then _ else _)=_
   rw [if_pos ⟨h.2,by rw [is_at h'];decide⟩,if_neg (by rw [is_at h'];decide)]
  obtain ⟨ss',e1,e2,e3⟩:=ins_at ts ss g os (acc++[(inner r).1]) (inner r).2 (fun y hy=>hi y (List.mem_cons_of_mem _ hy)) (by simp at hg;omega) h2
  rw [e]
  exact ⟨(inner r).1 :: ss',by rw [e1];simp,⟨h1,e2⟩,e3⟩
theorem in_at (ts:List Tk) (ss:List β) (hi:∀ x∈ss,(∃ u,f x=(1,wState) :: u)/\∀ r' ts',AtT r' (f x++ts')->R x (inner r').1/\AtT (inner r').2 ts'):∀ (ol:List OnC) (g:Nat) (os:List OnC) (acc:List α) (r:RsC),ol.all onF=true->(∀ o∈ol,OnCl o)->ol.length+ss.length < g->AtT r ((ol.map onT).flatten++((ss.map f).flatten++(3,[125]) :: ts))->
  ∃ ol' ss',(inR fin inner g os acc r).1=(os++ol',acc++ss')/\L2 AkO ol ol'/\L2 R ss ss'/\AtT (inR fin inner g os acc r).2 ((3,[125]) :: ts)
 | [],g,os,acc,r,_,_,hg,h=>by
  obtain ⟨ss',e1,e2,e3⟩:=ins_at fin inner f R ts ss g os acc r hi (by simpa using hg) h
  exact ⟨[],ss',by rw [e1];simp,trivial,e2,e3⟩
 | o :: ol,0,os,acc,r,_,_,hg,_=>by omega
 | o :: ol,g+1,os,acc,r,hf,hc,hg,h=>by
  rw [List.all_cons,Bool.and_eq_true] at hf
  rw [List.map_cons,List.flatten_cons,List.append_assoc] at h
  have hn:Nxt ((ol.map onT).flatten++((ss.map f).flatten++(3,[125]) :: ts)):=by
   cases ol with
   | cons o2 ol=>exact nxt_of (by decide)
   | nil=>
    cases ss with
    | nil=>exact nxt_of (by decide)
    | cons x ss=>
     obtain ⟨⟨u,hu⟩,_⟩:=hi x List.mem_cons_self
     rw [List.map_cons,List.flatten_cons,hu]
     exact nxt_of (by decide)
  obtain ⟨h1,h2⟩:=on_at h hf.1 (hc o List.mem_cons_self) hn fin
  have h':AtT r ((1,wOn) :: ((1,o.1) :: (grdT o.2.1++((1,wGo) :: (1,o.2.2.1) :: (o.2.2.2.1.map setT).flatten))++((ol.map onT).flatten++((ss.map f).flatten++(3,[125]) :: ts)))):=h
  have e:inR fin inner (g+1) os acc r=inR fin inner g (os++[(onR fin r).1]) acc (onR fin r).2:=by
   show (if r.2.2=0/\isC [125] r=false then _ else _)=_
   rw [if_pos ⟨h.2,by rw [is_at h'];decide⟩,if_pos (by rw [is_at h',decide_eq_true rfl])]
  obtain ⟨ol',ss',e1,e2,e3,e4⟩:=in_at ts ss hi ol g (os++[(onR fin r).1]) acc (onR fin r).2 hf.2 (fun y hy=>hc y (List.mem_cons_of_mem _ hy)) (by simp at hg;omega) h2
  rw [e]
  exact ⟨(onR fin r).1 :: ol',ss',by rw [e1];simp,⟨h1,e2⟩,e3,e4⟩
end
def stT:(d:Nat)->St d->List Tk
 | 0,t=>Empty.elim t
 | d+1,t=>(1,wState) :: (1,t.1.1.1) :: (3,[123]) :: (kndT t.1++((t.1.2.2.2.2.map onT).flatten++((t.2.map (stT d)).flatten++[(3,[125])])))
theorem tkQ_st:∀ (d n:Nat) (t:St d),tkQ (stQ d n t)=stT d t
 | 0,_,t=>Empty.elim t
 | d+1,n,t=>by
  show tkQ (tbQ n++([kwQ wState,spQ,kwQ t.1.1.1,spQ,sgQ 123,nlQ]++(kndQ (n+1) t.1++((t.1.2.2.2.2.map (onQ (n+1))).flatten++((t.2.map (stQ d (n+1))).flatten++(tbQ n++[sgQ 125,nlQ]))))))=_
  rw [tkQ_app,tkQ_tb,List.nil_append,tkQ_app,tkQ_app,tkQ_knd,tkQ_app,tkQ_flat (tkQ_on (n+1)),tkQ_app,tkQ_flat (tkQ_st d (n+1)),tkQ_app,tkQ_tb]
  rfl
theorem knd_of {k:Nat}{s:List UInt8}{ts:List Tk}(h:s≠wAll/\s≠wEnd/\s≠wDo):Knd ((k,s) :: ts):=fun w r e=>by
 injection e with e1 _
 rw [<- e1];exact h
theorem st_at (fin:Pl):∀ (d n:Nat) (t:St d),stF d n t=true->StCl d t->∀ k,k+n=7->∀ (r:RsC) (ts:List Tk),AtT r (stT d t++ts)->AkS d (k+1) t (stR fin k r).1/\AtT (stR fin k r).2 ts
 | 0,_,t,_,_=>Empty.elim t
 | d+1,n,t,hf,hc=>fun k hk r ts h=>by
  obtain ⟨h1,h2,h3,h4,h5⟩:=stF_parts hf
  obtain ⟨k,rfl⟩:∃ k',k=k'+1:=⟨k - 1,by omega⟩
  rw [List.all_eq_true] at h5
  have h:AtT r ((1,wState) :: (1,t.1.1.1) :: (3,[123]) :: ((kndT t.1++((t.1.2.2.2.2.map onT).flatten++((t.2.map (stT d)).flatten++[(3,[125])])))++ts)):=h
  have a1:=take_at h fin
  obtain ⟨n1,a2⟩:=name_at a1 h2 fin
  have a3:=take_at a2 fin
  rw [List.append_assoc,List.append_assoc,List.append_assoc] at a3
  have hK:Knd ((t.1.2.2.2.2.map onT).flatten++((t.2.map (stT d)).flatten++([(3,[125])]++ts))):=by
   cases ho:t.1.2.2.2.2 with
   | cons o ol=>exact knd_of (by decide)
   | nil=>
    cases hi:t.2 with
    | nil=>exact knd_of (by decide)
    | cons x l=>
     cases d with
     | zero=>exact Empty.elim x
     | succ d=>exact knd_of (by decide)
  obtain ⟨n2,a4⟩:=kind_at a3 h3 hK fin
  have hlen:t.1.2.2.2.2.length+t.2.length < (kindR fin (takeR fin [123] (nameR fin (takeR fin wState r)).2)).2.1.length+1:=by
   rw [len_le_at a4,List.length_append,List.length_append]
   have e1:=len_flat (g:=onT) (fun x=>by unfold onT;simp) t.1.2.2.2.2
   have e2:=len_flat (g:=stT d) (fun x=>by
    cases d with
    | zero=>exact Empty.elim x
    | succ d=>show 1<=((1,wState) :: _).length;simp) t.2
   omega
  obtain ⟨ol',ss',e1,e2,e3,e4⟩:=in_at fin (stR fin k) (stT d) (AkS d (k+1)) ts t.2 (fun x hx=>⟨by
    cases d with
    | zero=>exact Empty.elim x
    | succ d=>exact ⟨_,rfl⟩,fun r' ts' hr=>st_at fin d (n+1) x (h5 x hx) (hc.2 x hx) k (by omega) r' ts' hr⟩) t.1.2.2.2.2 _ [] [] _ h4 hc.1 hlen a4
  have e:stR fin (k+1) r=((((nameR fin (takeR fin wState r)).1,(kindR fin (takeR fin [123] (nameR fin (takeR fin wState r)).2)).1.1,(kindR fin (takeR fin [123] (nameR fin (takeR fin wState r)).2)).1.2.1,(kindR fin (takeR fin [123] (nameR fin (takeR fin wState r)).2)).1.2.2,(inR fin (stR fin k) ((kindR fin (takeR fin [123] (nameR fin (takeR fin wState r)).2)).2.1.length+1) [] [] (kindR fin (takeR fin [123] (nameR fin (takeR fin wState r)).2)).2).1.1),(inR fin (stR fin k) ((kindR fin (takeR fin [123] (nameR fin (takeR fin wState r)).2)).2.1.length+1) [] [] (kindR fin (takeR fin [123] (nameR fin (takeR fin wState r)).2)).2).1.2),takeR fin [125] (inR fin (stR fin k) ((kindR fin (takeR fin [123] (nameR fin (takeR fin wState r)).2)).2.1.length+1) [] [] (kindR fin (takeR fin [123] (nameR fin (takeR fin wState r)).2)).2).2):=rfl
  rw [e]
  refine ⟨?_,take_at e4 fin⟩
  refine ⟨n1.symm,?_,?_,?_,?_,?_⟩
  ·show t.1.2.1=(kindR fin _).1.1
   rw [n2]
  ·show t.1.2.2.1=(kindR fin _).1.2.1
   rw [n2]
  ·show t.1.2.2.2.1=(kindR fin _).1.2.2
   rw [n2]
  ·show L2 AkO _ (inR fin _ _ _ _ _).1.1
   rw [e1];exact e2
  ·show L2 (AkS d (k+1)) _ (inR fin _ _ _ _ _).1.2
   rw [e1];exact e3
theorem sts_at (fin:Pl) (d:Nat) (ts:List Tk):∀ (l:List (St d)) (g:Nat) (acc:List (St 7)) (r:RsC),(∀ t∈l,stF d 1 t=true/\StCl d t)->l.length < g->AtT r ((l.map (stT d)).flatten++(3,[125]) :: ts)->
  ∃ l',(stsR fin g acc r).1=acc++l'/\L2 (AkS d 7) l l'/\AtT (stsR fin g acc r).2 ((3,[125]) :: ts)
 | _,0,_,_,_,hg,_=>by omega
 | [],g+1,acc,r,_,_,h=>by
  have h:AtT r ((3,[125]) :: ts):=h
  have e:stsR fin (g+1) acc r=(acc,r):=by
   show (if r.2.2=0/\isC [125] r=false then _ else _)=_
   rw [if_neg (fun q=>by have:=q.2;rw [is_at h,decide_eq_true rfl] at this;cases this)]
  rw [e]
  exact ⟨[],by simp,trivial,h⟩
 | x :: l,g+1,acc,r,hx,hg,h=>by
  rw [List.map_cons,List.flatten_cons,List.append_assoc] at h
  obtain ⟨h1,h2⟩:=st_at fin d 1 x (hx x List.mem_cons_self).1 (hx x List.mem_cons_self).2 6 rfl r _ h
  have hne:isC [125] r=false:=by
   cases d with
   | zero=>exact Empty.elim x
   | succ d=>
    have h':AtT r ((1,wState) :: ((1,x.1.1.1) :: (3,[123]) :: (kndT x.1++((x.1.2.2.2.2.map onT).flatten++((x.2.map (stT d)).flatten++[(3,[125])])))++((l.map (stT (d+1))).flatten++(3,[125]) :: ts))):=h
    rw [is_at h'];decide
  have e:stsR fin (g+1) acc r=stsR fin g (acc++[(stR fin 6 r).1]) (stR fin 6 r).2:=by
   show (if r.2.2=0/\isC [125] r=false then _ else _)=_
   rw [if_pos ⟨h.2,hne⟩]
  obtain ⟨l',e1,e2,e3⟩:=sts_at fin d ts l g (acc++[(stR fin 6 r).1]) (stR fin 6 r).2 (fun y hy=>hx y (List.mem_cons_of_mem _ hy)) (by simp at hg;omega) h2
  rw [e]
  exact ⟨(stR fin 6 r).1 :: l',by rw [e1];simp,⟨h1,e2⟩,e3⟩
def numT (n:Int):List Tk:=if n < 0 then [(3,[45]),(2,dcN (-n))] else [(2,dcN n)]
def varT (v:List UInt8 × Int × Pl):List Tk:=(1,wVar) :: (1,v.1) :: (3,[61]) :: numT v.2.1
theorem tkQ_var (v:List UInt8 × Int × Pl):tkQ (varQ v)=varT v:=by
 have hn:tkQ (nmQ v.2.1)=numT v.2.1:=by
  unfold nmQ numT
  split<;>rfl
 unfold varQ varT
 rw [tkQ_app,tkQ_tb,List.nil_append,tkQ_app,tkQ_app,hn]
 show [(1,wVar),(1,v.1),(3,[61])]++(numT v.2.1++[])=_
 rw [List.append_nil];rfl
theorem vars_at (fin:Pl) (ts:List Tk) (hn:∀ w t,ts=w :: t->w.2≠wVar):∀ (l:List (List UInt8 × Int × Pl)) (g:Nat) (acc:List (List UInt8 × Int × Pl)) (r:RsC),l.all varF=true->l.length < g->AtT r ((l.map varT).flatten++ts)->
  ∃ l',(varsR fin g acc r).1=acc++l'/\L2 AkV l l'/\AtT (varsR fin g acc r).2 ts
 | _,0,_,_,_,hg,_=>by omega
 | [],g+1,acc,r,_,_,h=>by
  have h:AtT r ts:=h
  have e:varsR fin (g+1) acc r=(acc,r):=by
   show (if isC wVar r=true then _ else _)=_
   rw [if_neg (by rw [is_not h hn];decide)]
  rw [e]
  exact ⟨[],by simp,trivial,h⟩
 | v :: l,g+1,acc,r,hf,hg,h=>by
  rw [List.all_cons,Bool.and_eq_true] at hf
  have hv:=hf.1
  unfold varF at hv
  rw [Bool.and_eq_true,decide_eq_true_eq] at hv
  rw [List.map_cons,List.flatten_cons,List.append_assoc] at h
  have h:AtT r ((1,wVar) :: (1,v.1) :: (3,[61]) :: (numT v.2.1++((l.map varT).flatten++ts))):=h
  have a1:=take_at h fin
  obtain ⟨n1,a2⟩:=name_at a1 hv.1 fin
  have a3:=take_at a2 fin
  obtain ⟨B,hB⟩:∃ x,takeR fin [61] (nameR fin (takeR fin wVar r)).2=x:=⟨_,rfl⟩
  rw [hB] at a3
  obtain ⟨N,hN⟩:∃ x:Int × RsC,(if isC [45] B=true then (fun x=>(-x.1,x.2)) (numR fin (takeR fin [45] B)) else numR fin B)=x:=⟨_,rfl⟩
  have hNp:N.1=v.2.1/\AtT N.2 ((l.map varT).flatten++ts):=by
   unfold numT at a3
   by_cases hz:v.2.1 < 0
   ·rw [if_pos hz] at a3
    have a3:AtT B ((3,[45]) :: (2,dcN (-v.2.1)) :: ((l.map varT).flatten++ts)):=a3
    rw [if_pos (by rw [is_at a3,decide_eq_true rfl])] at hN
    obtain ⟨n2,a4⟩:=num_at (take_at a3 fin) fin
    rw [val_dc (by omega)] at n2
    rw [<- hN]
    exact ⟨by show -(numR fin (takeR fin [45] B)).1=_;rw [n2];omega,a4⟩
   ·rw [if_neg hz] at a3
    have a3:AtT B ((2,dcN v.2.1) :: ((l.map varT).flatten++ts)):=a3
    have hne:isC [45] B=false:=by
     rw [is_at a3]
     refine decide_eq_false (fun q=>?_)
     have:=num_dc (n:=v.2.1) (by omega) (by omega)
     rw [q] at this
     revert this;decide
    rw [if_neg (by rw [hne];decide)] at hN
    obtain ⟨n2,a4⟩:=num_at a3 fin
    rw [val_dc (by omega)] at n2
    rw [<- hN]
    exact ⟨n2,a4⟩
  have e:varsR fin (g+1) acc r=varsR fin g (acc++[((nameR fin (takeR fin wVar r)).1.1,N.1,(nameR fin (takeR fin wVar r)).1.2)]) N.2:=by
   show (if isC wVar r=true then _ else _)=_
   rw [if_pos (by rw [is_at h,decide_eq_true rfl])]
   simp only
   rw [hB,hN]
  obtain ⟨l',e1,e2,e3⟩:=vars_at fin ts hn l g (acc++[((nameR fin (takeR fin wVar r)).1.1,N.1,(nameR fin (takeR fin wVar r)).1.2)]) N.2 hf.2 (by simp at hg;omega) hNp.2
  rw [e]
  exact ⟨((nameR fin (takeR fin wVar r)).1.1,N.1,(nameR fin (takeR fin wVar r)).1.2) :: l',by rw [e1];simp,⟨⟨n1.symm,hNp.1.symm⟩,e2⟩,e3⟩
def chT (d:Nat) (c:ChX d):List Tk:=(1,wChart) :: (1,c.1.1) :: (2,dcN c.2.1) :: (3,[123]) :: ((c.2.2.1.map varT).flatten++((c.2.2.2.map (stT d)).flatten++[(3,[125])]))
theorem tkQ_ch (d:Nat) (c:ChX d):tkQ (chQ d c)=chT d c:=by
 unfold chQ chT
 rw [tkQ_app,tkQ_app,tkQ_flat tkQ_var,tkQ_app,tkQ_flat (tkQ_st d 1)]
 rfl
theorem ch_at {d:Nat}{c:ChX d}(hf:chF d c=true) (hc:∀ t∈c.2.2.2,StCl d t) (fin:Pl) {ws:List Wd}(h:ws.map tkW=chT d c):∃ c',chR fin ws=(c',(0,0),0)/\AkC d 7 c c':=by
 obtain ⟨h1,h2,h3,h4⟩:=chF_parts hf
 rw [List.all_eq_true] at h4
 have h:AtT (ws,(0,0),0) ((1,wChart) :: (1,c.1.1) :: (2,dcN c.2.1) :: (3,[123]) :: ((c.2.2.1.map varT).flatten++((c.2.2.2.map (stT d)).flatten++[(3,[125])]))):=⟨h,rfl⟩
 have a1:=take_at h fin
 obtain ⟨n1,a2⟩:=name_at a1 h1 fin
 obtain ⟨A,hA⟩:∃ x,nameR fin (takeR fin wChart (ws,(0,0),0))=x:=⟨_,rfl⟩
 rw [hA] at n1 a2
 obtain ⟨n2,a3⟩:=num_at a2 fin
 obtain ⟨N,hN⟩:∃ x,numR fin A.2=x:=⟨_,rfl⟩
 rw [hN] at n2 a3
 rw [val_dc (nb_of h2).1] at n2
 have a4:=take_at a3 fin
 obtain ⟨B,hB⟩:∃ x,takeR fin [123] N.2=x:=⟨_,rfl⟩
 rw [hB] at a4
 have hl1:c.2.2.1.length < B.1.length+1:=by
  rw [len_le_at a4,List.length_append]
  have e1:=len_flat (g:=varT) (fun x=>by unfold varT;simp) c.2.2.1
  omega
 obtain ⟨vl,v1,v2,v3⟩:=vars_at fin ((c.2.2.2.map (stT d)).flatten++[(3,[125])]) (fun w t e=>by
  cases hs:c.2.2.2 with
  | nil=>rw [hs] at e;injection e with e1 _;rw [<- e1];show ([125]:List UInt8)≠wVar;decide
  | cons x l=>
   cases d with
   | zero=>exact Empty.elim x
   | succ d=>rw [hs] at e;injection e with e1 _;rw [<- e1];show wState≠wVar;decide) c.2.2.1 (B.1.length+1) [] B h3 hl1 a4
 obtain ⟨V,hV⟩:∃ x,varsR fin (B.1.length+1) [] B=x:=⟨_,rfl⟩
 rw [hV] at v1 v3
 have hl2:c.2.2.2.length < V.2.1.length+1:=by
  rw [len_le_at v3,List.length_append]
  have e2:=len_flat (g:=stT d) (fun x=>by
   cases d with
   | zero=>exact Empty.elim x
   | succ d=>show 1<=((1,wState) :: _).length;simp) c.2.2.2
  omega
 obtain ⟨sl,s1,s2,s3⟩:=sts_at fin d [] c.2.2.2 (V.2.1.length+1) [] V.2 (fun t ht=>⟨h4 t ht,hc t ht⟩) hl2 v3
 obtain ⟨S,hS⟩:∃ x,stsR fin (V.2.1.length+1) [] V.2=x:=⟨_,rfl⟩
 rw [hS] at s1 s3
 have a5:=take_at s3 fin
 have hz:(takeR fin [125] S.2).1=[]:=by simpa using a5.1
 refine ⟨(A.1,N.1,V.1,S.1),?_,n1.symm,n2.symm,?_,?_⟩
 ·unfold chR
  simp only
  rw [hA,hN,hB,hV,hS]
  have hz2:(if (takeR fin [125] S.2).2.2=0/\(takeR fin [125] S.2).1≠[] then failC 12 (hereR fin (takeR fin [125] S.2)) (takeR fin [125] S.2) else takeR fin [125] S.2)=takeR fin [125] S.2:=if_neg (fun q=>q.2 hz)
  rw [hz2,if_pos a5.2]
 ·show L2 AkV _ V.1
  rw [v1];exact v2
 ·show L2 (AkS d 7) _ S.1
  rw [s1];exact s2
theorem read_printed {d:Nat}{c:ChX d}(hf:chF d c=true) (hc:∀ t∈c.2.2.2,StCl d t) (hl:(txQ (chQ d c)).length<=12000) (hn:(tkQ (chQ d c)).length<=3000):∃ c',readC (txQ (chQ d c))=(c',(0,0),0)/\AkC d 7 c c':=by
 have hw:=words_Q (fitQ_ch hf hc)
 rw [if_pos ⟨hl,hn⟩] at hw
 obtain ⟨h1,h2⟩:=er_words hw
 rw [tkQ_ch] at h2
 unfold readC
 rw [if_neg (by simpa using h1)]
 exact ch_at hf hc _ h2
def awCS:ChG 1:=(([97],(0,0)),1,[],[((([98],(0,0)),(false,true),([],[]),(0,0),[]),[])])
def awTS:List UInt8:=[99,104,97,114,116,32,97,32,49,32,123,10,9,115,116,97,116,101,32,98,32,123,10,9,9,101,110,100,10,9,125,10,125,10]
theorem awCS_pr:prG 1 awCS=(awTS,0):=by kernel_rfl
theorem awCS_k:ChK 1 awCS:=⟨by decide,fun x hx=>(by cases hx),fun t ht=>by
 rw [List.mem_singleton.1 ht]
 exact ⟨⟨by decide,by decide,by decide,fun o ho=>(by cases ho)⟩,fun x hx=>Empty.elim x⟩⟩
theorem awCS_cl:∀ t∈awCS.2.2.2,StCl 1 t:=fun t ht=>by
 rw [List.mem_singleton.1 ht]
 exact ⟨fun o ho=>(by cases ho),fun x hx=>Empty.elim x⟩
theorem awCS_rd (w:World):RdC (fun _=>True) (w.alloc (.cells #[.string ⟨#[98]⟩,.int .i64 0,.int .i64 0,.bool false,.bool true,.string ⟨#[]⟩,.string ⟨#[]⟩,.int .i64 0,.int .i64 0,.slice none 0 0,.slice none 0 0] 55)) 1 awCS (.agg #[.string ⟨#[97]⟩,.int .i64 1,.int .i64 0,.int .i64 0,.slice none 0 0,.slice (some ⟨w.heap.size,0,none⟩) 1 1]):=by
 have hX:Bn (w.alloc (.cells #[.string ⟨#[98]⟩,.int .i64 0,.int .i64 0,.bool false,.bool true,.string ⟨#[]⟩,.string ⟨#[]⟩,.int .i64 0,.int .i64 0,.slice none 0 0,.slice none 0 0] 55)) w.heap.size [.string ⟨#[98]⟩,.int .i64 0,.int .i64 0,.bool false,.bool true,.string ⟨#[]⟩,.string ⟨#[]⟩,.int .i64 0,.int .i64 0,.slice none 0 0,.slice none 0 0]:=Bn.new w [.string ⟨#[98]⟩,.int .i64 0,.int .i64 0,.bool false,.bool true,.string ⟨#[]⟩,.string ⟨#[]⟩,.int .i64 0,.int .i64 0,.slice none 0 0,.slice none 0 0] 55 _ rfl
 refine ⟨_,_,rfl,rdK_none _ _ _ _,some ⟨w.heap.size,0,none⟩,1,rfl,by decide,by decide,fun i hi=>?_⟩
 have hi0:i=0:=by
  have:i < 1:=hi
  omega
 subst hi0
 refine ⟨w.heap.size,0,[.string ⟨#[98]⟩,.int .i64 0,.int .i64 0,.bool false,.bool true,.string ⟨#[]⟩,.string ⟨#[]⟩,.int .i64 0,.int .i64 0,.slice none 0 0,.slice none 0 0],rfl,trivial,hX.lt,rfl,⟨_,_,rfl,rdK_none _ _ _ _,rdK_none _ _ _ _⟩,fun j u hu=>?_⟩
 have:=(hX j u hu).1
 simpa using this
theorem awakeS (w:World) (hp:Pow w):Calls Tryz.prog 18 #[] w fun e w'=>e=.returned (.bool true)/\Below w.heap.size w w':=by
 have hal:Below w.heap.size w (w.alloc (.cells #[.string ⟨#[98]⟩,.int .i64 0,.int .i64 0,.bool false,.bool true,.string ⟨#[]⟩,.string ⟨#[]⟩,.int .i64 0,.int .i64 0,.slice none 0 0,.slice none 0 0] 55)):=(Below.refl w.heap.size w).alloc Nat.le.refl _
 have h1:=printC_any (awCS_rd w) awCS_k awCS_cl (hp.below hal)
 rw [awCS_pr] at h1
 go_enter Tryz.func18,Tryz.ntmps18
 go_wp2_with (first
  | (go_at_call 19;refine h1.mono ?_;rintro e w1 ⟨rfl,b1⟩)
  | fail)
 go_ret
 exact ⟨rfl,hal.trans (b1.mono hal.size)⟩
theorem L2.len {α β:Type}{R:α->β->Prop}:∀ {l:List α}{m:List β},L2 R l m->l.length=m.length
 | [],[],_=>rfl
 | x :: l,y :: m,h=>congrArg (· + 1) (L2.len h.2)
 | [],_ :: _,h=>False.elim h
 | _ :: _,[],h=>False.elim h
theorem L2.at {α β:Type}{R:α->β->Prop}:∀ {l:List α}{m:List β},L2 R l m->∀ (i:Nat) (h:i < l.length) (h':i < m.length),R l[i] m[i]
 | x :: l,y :: m,h,0,_,_=>h.1
 | x :: l,y :: m,h,i+1,h1,h2=>L2.at h.2 i (by simpa using h1) (by simpa using h2)
 | [],[],h,i,h1,_=>absurd h1 (by simp)
 | [],_ :: _,h,_,_,_=>False.elim h
 | _ :: _,[],h,_,_,_=>False.elim h
theorem RdK.l2 {α β:Type}{ok:Nat->Prop}{w:World}{k:Nat}{P:α->List Value->Prop}{Q:β->List Value->Prop}{R:α->β->Prop}{l:List α}{m:List β}{v:Value}(hl:L2 R l m) (h:RdK ok w k P l v) (hR:∀ x∈l,∀ y∈m,R x y->∀ cs,P x cs->Q y cs):RdK ok w k Q m v:=by
 obtain ⟨a,cap,rfl,h1,h2,h3⟩:=h
 have e:=hl.len
 refine ⟨a,cap,by rw [e],by omega,h2,fun i hi=>?_⟩
 obtain ⟨b,off,cs,q1,q2,q3,q4,q5,q6⟩:=h3 i (by omega)
 exact ⟨b,off,cs,q1,q2,q3,q4,hR _ (List.getElem_mem _) _ (List.getElem_mem _) (hl.at i (by omega) hi) cs q5,q6⟩
theorem L2.map {α β γ δ:Type}{R:α->β->Prop}{S:γ->δ->Prop}{f:α->γ}{g:β->δ}(h:∀ x y,R x y->S (f x) (g y)):∀ {l:List α}{m:List β},L2 R l m->L2 S (l.map f) (m.map g)
 | [],[],_=>trivial
 | x :: l,y :: m,hl=>⟨h x y hl.1,L2.map h hl.2⟩
 | [],_ :: _,h=>False.elim h
 | _ :: _,[],h=>False.elim h
theorem ak_ex {x y:Sx}(h:Alk y x.2):exX y=exX x:=h.1 _ _
theorem rd_set {ok:Nat->Prop}{w:World}{s s':List UInt8 × Sx}(h:AkT s s') {cs:List Value}(hr:rSet ok w s cs):rSet ok w s' cs:=by
 unfold rSet at hr ⊢
 rw [hr,h.1,ak_ex h.2]
theorem gd_ak {g g':Bool × Sx}(h1:g.1=g'.1) (h2:g.1=true->Alk g'.2 g.2.2):gdV g=gdV g':=by
 unfold gdV
 by_cases h:g.1=true
 ·rw [if_pos h,if_pos (h1 ▸ h),ak_ex (h2 h)]
 ·rw [if_neg h,if_neg (h1 ▸ h)]
theorem rd_on {ok:Nat->Prop}{w:World}{o o':OnC}(h:AkO o o') {cs:List Value}(hr:rOn ok w (stO o) cs):rOn ok w (stO o') cs:=by
 obtain ⟨sl,e,hs⟩:=hr
 obtain ⟨h1,h2,h3,h4,h5⟩:=h
 refine ⟨sl,?_,RdK.l2 h5 hs (fun x _ y _ hxy cs hc=>rd_set hxy hc)⟩
 rw [e]
 show [sV o.1,gdV o.2.1,sV o.2.2.1,sl,.int .i64 0,.int .i64 0]=[sV o'.1,gdV o'.2.1,sV o'.2.2.1,sl,.int .i64 0,.int .i64 0]
 rw [h1,h4,gd_ak h2 h3]
theorem RdK.l2m {α β γ δ:Type}{ok:Nat->Prop}{w:World}{k:Nat}{f:α->γ}{g:β->δ}{P:γ->List Value->Prop}{Q:δ->List Value->Prop}{R:α->β->Prop}{l:List α}{m:List β}{v:Value}(h:L2 R l m) (hr:RdK ok w k P (l.map f) v) (hR:∀ x y,R x y->∀ cs,P (f x) cs->Q (g y) cs):RdK ok w k Q (m.map g) v:=by
 obtain ⟨a,cap,e0,h1,h2,h3⟩:=hr
 have e:=h.len
 rw [List.length_map] at e0 h1
 refine ⟨a,cap,by rw [e0,List.length_map,e],by rw [List.length_map];omega,h2,fun i hi=>?_⟩
 rw [List.length_map] at hi
 obtain ⟨b,off,cs,q1,q2,q3,q4,q5,q6⟩:=h3 i (by rw [List.length_map];omega)
 refine ⟨b,off,cs,q1,q2,q3,q4,?_,q6⟩
 rw [List.getElem_map] at q5 ⊢
 exact hR _ _ (h.at i (by omega) hi) cs q5
theorem rd_st {ok:Nat->Prop}{w:World}:∀ (d d':Nat) (t:St d) (t':St d'),AkS d d' t t'->∀ cs,rSt d ok w (stS d t) cs->rSt d' ok w (stS d' t') cs
 | 0,_,t,_,_,_,_=>Empty.elim t
 | _+1,0,_,t,_,_,_=>Empty.elim t
 | d+1,d'+1,t,t',h,cs,hr=>by
  obtain ⟨so,si,e,r2,r3⟩:=hr
  obtain ⟨h1,h2,h3,h4,h5,h6⟩:=h
  refine ⟨so,si,?_,RdK.l2m (g:=stO) h5 r2 (fun x y hxy cs hc=>rd_on hxy hc),RdK.l2m (g:=stS d') h6 r3 (fun x y hxy cs hc=>rd_st d d' x y hxy cs hc)⟩
  rw [e]
  show [sV t.1.1.1,.int .i64 0,.int .i64 0,.bool t.1.2.1.1,.bool t.1.2.1.2,sV t.1.2.2.1.1,sV t.1.2.2.1.2,.int .i64 t.1.2.2.2.1.1,.int .i64 t.1.2.2.2.1.2,so,si]=[sV t'.1.1.1,.int .i64 0,.int .i64 0,.bool t'.1.2.1.1,.bool t'.1.2.1.2,sV t'.1.2.2.1.1,sV t'.1.2.2.1.2,.int .i64 t'.1.2.2.2.1.1,.int .i64 t'.1.2.2.2.1.2,so,si]
  rw [h1,h2,h3,h4]
theorem rd_var {ok:Nat->Prop}{w:World}{v v':List UInt8 × Int × Pl}(h:AkV v v') {cs:List Value}(hr:rVar ok w (spV v) cs):rVar ok w (spV v') cs:=by
 unfold rVar at hr ⊢
 rw [hr]
 show [sV v.1,.int .i64 v.2.1,.int .i64 0,.int .i64 0]=[sV v'.1,.int .i64 v'.2.1,.int .i64 0,.int .i64 0]
 rw [h.1,h.2]
theorem rd_alike {ok:Nat->Prop}{w:World}{d d':Nat}{c:ChG d}{c':ChG d'}{v:Value}(h:AkC d d' c c') (hr:RdC ok w d (stG d c) v):RdC ok w d' (stG d' c') v:=by
 obtain ⟨sv,ss,e,r1,r2⟩:=hr
 obtain ⟨h1,h2,h3,h4⟩:=h
 refine ⟨sv,ss,?_,RdK.l2m (g:=spV) h3 r1 (fun x y hxy cs hc=>rd_var hxy hc),RdK.l2m (g:=stS d') h4 r2 (fun x y hxy cs hc=>rd_st d d' x y hxy cs hc)⟩
 rw [e]
 show Value.agg #[sV c.1.1,.int .i64 c.2.1,.int .i64 0,.int .i64 0,sv,ss]=.agg #[sV c'.1.1,.int .i64 c'.2.1,.int .i64 0,.int .i64 0,sv,ss]
 rw [h1,h2]
theorem start_any {d e:Nat}{t:T d}{u:T e}(w:World) (hc:Cl d t) (hc':Cl e u) (hn:cnt d t<=2000) (hn':cnt e u<=2000):Start w (exV d t) (exV e u) (samC d e t u):=by
 refine ⟨[⟨d,t⟩],[⟨e,u⟩],?_,?_,rfl,?_,?_,?_,?_,?_⟩
 ·have:=World.ownsRow_lit (e:=130) (base:=w.heap.size) (size:=1) w #[exV d t] 1 Nat.le.refl (by simp [maxLen]) (by simp)
  have h2:=World.ownsRow.alloc this (.cells #[exV e u] 130)
  unfold Stk
  simpa [exS] using h2
 ·have:=World.ownsRow_lit (e:=130) (base:=w.heap.size) (size:=1) (w.alloc (.cells #[exV d t] 130)) #[exV e u] 1 (by simp) (by simp [maxLen]) (by simp)
  unfold Stk
  simpa [exS] using this
 ·intro z hz;simp at hz;subst hz;exact hc
 ·intro z hz;simp at hz;subst hz;exact hc'
 ·show (samC d e t u && true)=samC d e t u;simp
 ·show cnt d t+0<=2000;omega
 ·show cnt e u+0<=2000;omega
theorem same_a {V:Bool}{w:World}(hs1:Hid (Start w .nilIface .nilIface V)):Calls Tryz.prog 130 #[.nilIface,.nilIface] w fun r w'=>r=.returned (.bool V)/\Below w.heap.size w w':=by
 obtain ⟨i0,hi,hz0,hz1,hz2⟩:=info_parts Tryz.infoE
 go_enter Tryz.func130,Tryz.ntmps130
 go_wp2
 go_loopg [5,6] 2000 (fun gn p q wr=>∃ (st su:List Sg),Stk wr w.heap.size p st/\Stk wr w.heap.size q su/\Hid (oneB p q)/\Hid (st.length=su.length)/\Hid (∀ y∈st,ClS y)/\Hid (∀ y∈su,ClS y)/\Hid (allz samS st su=V)/\Hid ((st.map cntS).sum<=gn)/\Hid (gn<=2000/\(su.map cntS).sum<=2000)/\Below w.heap.size w wr)
 case atStart=>
  obtain ⟨S,S',h1,h2,h3,h4,h5,h6,h7,h8⟩:=hs1.out
  exact ⟨S,S',h1,h2,fun g hg hg'=>by simp [Value.ownBlock] at hg hg';omega,h3,h4,h5,h6,h7,⟨Nat.le_refl _,h8⟩,((Below.refl _ _).alloc Nat.le.refl _).alloc (by simp) _⟩
 case round=>
  clear hs1
  obtain ⟨st,su,hS,hS',hO,hL,hC,hC',hV,hM,hM',hb⟩:=hrel
  by_cases he:st=[]
  ·subst he
   obtain ⟨a,cap,rfl⟩:=hS.nil
   have hF:V=true:=by
    have h1:=hL.out
    have h2:su=[]:=List.eq_nil_of_length_eq_zero (by simpa using h1.symm)
    rw [<- hV.out,h2];rfl
   subst hF
   go_wp2
   go_ret
   exact ⟨rfl,hb⟩
  obtain ⟨st',x,rfl⟩:=last_of he
  have hne:su≠[]:=by
   intro e;have h1:=hL.out;rw [e] at h1;simp at h1
  obtain ⟨su',y,rfl⟩:=last_of hne
  obtain ⟨g,cap,rfl,hcap,hcm,hgb,hgl,hcell,hP⟩:=hS.pop
  obtain ⟨g',cap',rfl,hcap',hcm',hgb',hgl',hcell',hP'⟩:=hS'.pop
  have hlen:Hid (su'.length=st'.length):=by have h1:=hL.out;show _=_;simp at h1;exact h1.symm
  have hm:=hM.out
  have hm':=hM'.out
  rw [List.map_append,List.sum_append,List.map_singleton,List.sum_singleton] at hm hm'
  have hcl1:=hC.out x (by simp)
  have hcl2:=hC'.out y (by simp)
  obtain ⟨e1,t1⟩:=x
  obtain ⟨e2,t2⟩:=y
  cases e1 with
  | zero=>exact Empty.elim t1
  | succ e1=>
  cases e2 with
  | zero=>exact Empty.elim t2
  | succ e2=>
  obtain ⟨k,n,s,ps,rfl,htop⟩:=topN_any (d:=e1) (t:=t1) hcl1
  obtain ⟨k',n',s',qs,rfl,htop'⟩:=topN_any (d:=e2) (t:=t2) hcl2
  obtain ⟨L,hLL⟩:∃ L,ps.map (exV e1)=L:=⟨_,rfl⟩
  obtain ⟨M,hMM⟩:∃ M,qs.map (exV e2)=M:=⟨_,rfl⟩
  obtain ⟨z,hz⟩:∃ z,exS ⟨e1+1,mkT k n s ps⟩=z:=⟨_,rfl⟩
  obtain ⟨z',hz'⟩:∃ z,exS ⟨e2+1,mkT k' n' s' qs⟩=z:=⟨_,rfl⟩
  have s1:∀ w1,Calls Tryz.prog 192 #[z] w1 fun e w'=>∃ sl,e=.returned (.agg #[.int .i64 k,.int .i64 n,.string s,sl])/\KidsN w1.heap.size w' sl L/\Below w1.heap.size w1 w':=by rw [<- hz,<- hLL];exact htop
  have h2:Hid (∀ w1,Calls Tryz.prog 192 #[z'] w1 fun e w'=>∃ sl,e=.returned (.agg #[.int .i64 k',.int .i64 n',.string s',sl])/\KidsN w1.heap.size w' sl M/\Below w1.heap.size w1 w'):=by rw [<- hz',<- hMM];exact htop'
  have hTI:Hid ((∀ v∈L,Ifc v)/\(∀ v∈M,Ifc v)):=by rw [<- hLL,<- hMM];exact ⟨ifc_map ps,ifc_map qs⟩
  have hLH:Hid (ps.map (exV e1)=L):=hLL
  have hMH:Hid (qs.map (exV e2)=M):=hMM
  rw [hz] at hcell
  rw [hz',hlen.out] at hcell'
  rw [hlen.out] at hP'
  have hsl:st'.length<=2000:=by
   have q1:=stk_len st'
   have q2:=hM'.out.1
   omega
  have i1:((st'.length:Int)+1 > 0):=by omega
  have i3:(0:Int)<=(st'.length:Int):=by omega
  have i4:(st'.length:Int)<=(cap:Int):=by omega
  have i4':(st'.length:Int)<=(cap':Int):=by have:=hlen.out;omega
  have i5:(st'.length:Int) < (st'.length:Int)+1:=by omega
  have HP:Hid (Stk wr w.heap.size (.slice (some ⟨g,0,none⟩) st'.length cap) st'):=hP
  have HP':Hid (Stk wr w.heap.size (.slice (some ⟨g',0,none⟩) st'.length cap') su'):=hP'
  rw [hlen.out]
  clear hLL hMM hz hz' htop htop' hP hP' hS hS'
  go_wp2
  go_cut [5,6,7,8,9] (fun p5 p6 p7 p8 p9 wc=>p5=.slice (some ⟨g,0,none⟩) (st'.length+1) cap/\p6=.slice (some ⟨g',0,none⟩) (st'.length+1) cap'/\p7=.int .i64 (st'.length:Int)/\
   ∃ X Y a a',p8=.pointer (some ⟨X,0,none⟩)/\p9=.pointer (some ⟨Y,0,none⟩)/\Both wr wc X Y (.int .i64 k) (.int .i64 n) (.string s) (.slice a L.length L.length) (.int .i64 k') (.int .i64 n') (.string s') (.slice a' M.length M.length) L M)
  case first=>
   clear hO hL hC hC' hV hM hM' hLH hMH HP HP' hlen hm hm' hcl1 hcl2 hi hz0 hz1 hz2 hne he
   have n1:g≠wr.heap.size:=by omega
   have n2:g'≠wr.heap.size:=by omega
   have n3:g≠wr.heap.size+1:=by omega
   have n4:g'≠wr.heap.size+1:=by omega
   go_region_held_law (fun w'=>w'.cell? ⟨g,st'.length,none⟩=some z/\w'.cell? ⟨g',st'.length,none⟩=some z')
    ((refine ⟨?_,?_⟩<;>(repeat (with_reducible first|exact hcell|exact hcell' | exact c1|exact c1' | exact c2|exact c2' | refine cell_al ?_|refine cell_dr ?_|refine cell_far4 (ne_pt n1) ?_|refine cell_far4 (ne_pt n2) ?_|refine cell_far4 (ne_pt n3) ?_|refine cell_far4 (ne_pt n4) ?_|refine cell_far4 (ne_pt n5) ?_|refine cell_far4 (ne_pt n6) ?_|refine cell_far4 (ne_pt n7) ?_|refine cell_far4 (ne_pt n8) ?_|refine cell_far4 (ne_pt n9) ?_|refine cell_far4 (ne_pt m1) ?_|refine cell_far4 (ne_pt m2) ?_|refine cell_far4 (ne_pt m3) ?_))<;>done))
    ((first
    | (have s1':=s1;go_at_call 192;refine (s1' _).mono ?_;rintro e w1 ⟨sl,rfl,hk1,b1⟩;obtain ⟨a1,rfl⟩:=hk1.1.form;have s2:=h2.out;clear s1 s1' h2;
       have bw:Below wr.heap.size wr w1:=(by first|(with_reducible exact bw0 b1)|(with_reducible exact bw1 b1)|(with_reducible exact bw2 b1));
       have r1:wr.heap.size<=w1.heap.size:=bw.size;have k1:∀ gg,(Value.slice a1 L.length L.length).ownBlock=some gg->wr.heap.size<=gg:=fun gg hgg=>Nat.le_trans (by first|omega|(simp<;>omega)) (hk1.2 gg hgg);
       have n5:g≠w1.heap.size:=Nat.ne_of_lt (Nat.lt_of_lt_of_le hgl r1);have n6:g'≠w1.heap.size:=Nat.ne_of_lt (Nat.lt_of_lt_of_le hgl' r1);have n7:g≠w1.heap.size+1:=Nat.ne_of_lt (Nat.lt_succ_of_lt (Nat.lt_of_lt_of_le hgl r1));have n8:g'≠w1.heap.size+1:=Nat.ne_of_lt (Nat.lt_succ_of_lt (Nat.lt_of_lt_of_le hgl' r1));
       have c1:=(bw.cell (p:=⟨g,st'.length,none⟩) hgl).trans hcell;have c1':=(bw.cell (p:=⟨g',st'.length,none⟩) hgl').trans hcell';
       (try with_reducible have pA:z4 w1 wr.heap.size:=zA1 b1);
       (try with_reducible have pA:z4 w1 wr.heap.size:=zA2 b1);
       (try with_reducible have pB:z4 w1 (wr.heap.size+1):=zB2 b1))
    | (have s2':=s2;go_at_call 192;refine (s2' _).mono ?_;rintro e w2 ⟨sl,rfl,hk2,b2⟩;obtain ⟨a2,rfl⟩:=hk2.1.form;clear s2 s2';
       have bx:Below w1.heap.size w1 w2:=(by first|(with_reducible exact b2)|(with_reducible exact bx1 b2)|(with_reducible exact bx2 b2));
       have bv:Below wr.heap.size wr w2:=bw.trans (bx.mono r1);
       have r2:w1.heap.size<=w2.heap.size:=bx.size;
       have r3:wr.heap.size<=w2.heap.size:=bv.size;have K2:KidsN wr.heap.size w2 (.slice a2 M.length M.length) M:=⟨hk2.1,fun gg hgg=>Nat.le_trans (by first|omega|(simp<;>omega)) (hk2.2 gg hgg)⟩;have K1:KidsN wr.heap.size w2 (.slice a1 L.length L.length) L:=⟨hk1.1.below bx Nat.le.refl,k1⟩;
       have n9:g≠w2.heap.size:=Nat.ne_of_lt (Nat.lt_of_lt_of_le hgl r3);have m1:g'≠w2.heap.size:=Nat.ne_of_lt (Nat.lt_of_lt_of_le hgl' r3);have m2:g≠w2.heap.size+1:=Nat.ne_of_lt (Nat.lt_succ_of_lt (Nat.lt_of_lt_of_le hgl r3));have m3:g'≠w2.heap.size+1:=Nat.ne_of_lt (Nat.lt_succ_of_lt (Nat.lt_of_lt_of_le hgl' r3));
       have c2:=(bv.cell (p:=⟨g,st'.length,none⟩) hgl).trans hcell;have c2':=(bv.cell (p:=⟨g',st'.length,none⟩) hgl').trans hcell';
       (try with_reducible have qA:z4 w2 wr.heap.size:=B4.keep' bx pA);
       (try with_reducible have qB:z4 w2 (wr.heap.size+1):=B4.keep' bx pB);
       (try with_reducible have rA:z4 w2 w1.heap.size:=zC1 b2);
       (try with_reducible have rA:z4 w2 w1.heap.size:=zC2 b2);
       (try with_reducible have rB:z4 w2 (w1.heap.size+1):=zD2 b2);
       (try obtain ⟨qa0,qa1,qa2,qa3,qa4,qa5,qa6,qa7⟩:=id qA);
       (try have qax:=z4_al qA);
       (try have qan:=Nat.ne_of_lt qA.lt);
       (try have qam:=(Nat.ne_of_lt qA.lt).symm);
       (try obtain ⟨qb0,qb1,qb2,qb3,qb4,qb5,qb6,qb7⟩:=id qB);
       (try have qbx:=z4_al qB);
       (try have qbn:=Nat.ne_of_lt qB.lt);
       (try have qbm:=(Nat.ne_of_lt qB.lt).symm);
       (try obtain ⟨ra0,ra1,ra2,ra3,ra4,ra5,ra6,ra7⟩:=id rA);
       (try have rax:=z4_al rA);
       (try have ran:=Nat.ne_of_lt rA.lt);
       (try have ram:=(Nat.ne_of_lt rA.lt).symm);
       (try obtain ⟨rb0,rb1,rb2,rb3,rb4,rb5,rb6,rb7⟩:=id rB);
       (try have rbx:=z4_al rB);
       (try have rbn:=Nat.ne_of_lt rB.lt);
       (try have rbm:=(Nat.ne_of_lt rB.lt).symm);
       (try have pan:=Nat.ne_of_lt pA.lt);
       (try have pam:=(Nat.ne_of_lt pA.lt).symm);
       (try have pbn:=Nat.ne_of_lt pB.lt);
       (try have pbm:=(Nat.ne_of_lt pB.lt).symm))))
   all_goals (go_wp2_with fail;go_meet;refine ⟨rfl,rfl,rfl,_,_,a1,a2,rfl,rfl,?_⟩)
   all_goals first
    | (with_reducible exact fin_A bv K1 K2)
    | (with_reducible exact fin_E bv K1 K2)
    | ((with_reducible refine fin_C bv hTI.out K1 K2 ?_ ?_ ?_ ?_ ?_)<;>first|assumption|omega)
    | ((with_reducible refine fin_B bv hTI.out K1 K2 ?_ ?_)<;>first|assumption|omega)
    | ((with_reducible refine fin_D bv hTI.out K1 K2 ?_ ?_)<;>first|assumption|omega)
  case rest=>
   obtain ⟨rfl,rfl,rfl,X,Y,a,a',rfl,rfl,hX,hY,K1,K2,lX,lY,bc⟩:=hcut
   obtain ⟨x0,x1,x2,x3⟩:=id hX
   obtain ⟨y0,y1,y2,y3⟩:=id hY
   have hal:=fun w1=>alike_any k n s a L.length k' n' s' a' M.length (cl_n hcl1).1 w1
   have hap:=allz_app samS st' su' [⟨e1+1,mkT k n s ps⟩] [⟨e2+1,mkT k' n' s' qs⟩] hlen.out.symm
   have hap1:allz samS [⟨e1+1,mkT k n s ps⟩] [⟨e2+1,mkT k' n' s' qs⟩]=(samS ⟨e1+1,mkT k n s ps⟩ ⟨e2+1,mkT k' n' s' qs⟩ && true):=rfl
   have hVV:=hV.out
   rw [hap,hap1,Bool.and_true] at hVV
   cases hq:alk k n s k' n' s' with
   | false=>
    simp only [hq] at hal
    have hF:V=false:=by rw [<- hVV,sam_no hq,Bool.and_false]
    subst hF
    clear hVV hap hap1 hV hO hL hC hC' hM hM' hTI hLH hMH HP HP' hlen hm hm' hcl1 hcl2 hq K1 K2 s1 h2 hX hY
    go_wp2_with (first
     | (go_at_call 193;refine (hal _).mono ?_;rintro e w3 ⟨rfl,b3⟩))
    go_ret
    exact ⟨rfl,(hb.trans (bc.mono hb.size)).trans (b3.mono (Nat.le_trans hb.size bc.size))⟩
   | true=>
    simp only [hq] at hal
    obtain ⟨hpq,hsam⟩:=sam_yes hq hcl1 hcl2
    rw [hsam,<- allz_kid] at hVV
    have hV2:Hid (allz samS (st'++kidS ps) (su'++kidS qs)=V):=by show _=_;rw [allz_app samS st' su' _ _ hlen.out.symm];exact hVV
    clear hVV hap hap1 hV hq s1 h2 hX hY
    have hgg:g≠g':=fun e=>hO.out g rfl (by rw [e];rfl)
    have hL2:L.length<=2:=by rw [<- hLH.out];simpa using (Cl.parts hcl1).1
    have hM2:M.length<=2:=by rw [<- hMH.out];simpa using (Cl.parts hcl2).1
    have hLn:Hid (L.length=ps.length):=by rw [<- hLH.out];show _=_;simp
    have hMn:Hid (M.length=qs.length):=by rw [<- hMH.out];show _=_;simp
    have hcx:cntS ⟨e1+1,mkT k n s ps⟩=(ps.map (cnt e1)).sum+1:=cnt_mk k n s ps
    have hcy:cntS ⟨e2+1,mkT k' n' s' qs⟩=(qs.map (cnt e2)).sum+1:=cnt_mk k' n' s' qs
    rw [hcx] at hm
    rw [hcy] at hm'
    have hNC:Hid (∀ y∈st'++kidS ps,ClS y):=fun y hy=>by
     rcases List.mem_append.1 hy with h|h
     ·exact hC.out y (by simp [h])
     ·obtain ⟨p,hp,rfl⟩:=List.mem_map.1 h
      exact (Cl.parts hcl1).2 p hp
    have hNC':Hid (∀ y∈su'++kidS qs,ClS y):=fun y hy=>by
     rcases List.mem_append.1 hy with h|h
     ·exact hC'.out y (by simp [h])
     ·obtain ⟨p,hp,rfl⟩:=List.mem_map.1 h
      exact (Cl.parts hcl2).2 p hp
    have hNM:Hid (((st'++kidS ps).map cntS).sum<=(st'.map cntS).sum+(ps.map (cnt e1)).sum):=by show _<=_;rw [List.map_append,List.sum_append,kidS_cnt];exact Nat.le_refl _
    have hNM':Hid ((st'.map cntS).sum+(ps.map (cnt e1)).sum<=2000/\((su'++kidS qs).map cntS).sum<=2000):=by
     refine ⟨by omega,?_⟩
     rw [List.map_append,List.sum_append,kidS_cnt]
     omega
    have hNL:Hid ((st'++kidS ps).length=(su'++kidS qs).length):=by show _=_;rw [List.length_append,List.length_append,kidS_len,kidS_len,hlen.out,hpq]
    have hgm:(st'.map cntS).sum+(ps.map (cnt e1)).sum < gk:=by omega
    have hxg:some X≠some g:=by simp;omega
    have hyg:some Y≠some g:=by simp;omega
    have hxg':some X≠some g':=by simp;omega
    have hyg':some Y≠some g':=by simp;omega
    have hqs:Hid (st'.length+M.length=su'.length+qs.length):=by show _=_;rw [hlen.out,hMn.out]
    clear hm hm' hcx hcy hC hC' hM hM' hL hcl1 hcl2 hsam hpq hO
    go_wp2_with (first
     | (go_at_call 193;refine (hal _).mono ?_;rintro e w3 ⟨rfl,b3⟩))
    have bcw:Below wr.heap.size wr w3:=bc.trans (b3.mono bc.size)
    have hA3:w3.drew.ownsRow w.heap.size 130 1 (.slice (some ⟨g,0,none⟩) st'.length cap) st'.length (st'.map exS):=HP.out.on bcw.drew Nat.le.refl
    have hB3:w3.drew.ownsRow w.heap.size 130 1 (.slice (some ⟨g',0,none⟩) st'.length cap') st'.length (su'.map exS):=by
     have:=HP'.out.on bcw.drew Nat.le.refl
     unfold Stk at this
     rw [hlen.out] at this
     exact this
    have K1':KidsN wr.heap.size w3.drew (.slice a L.length L.length) L:=KidsN.dr ⟨K1.1.below b3 Nat.le.refl,K1.2⟩
    have K2':KidsN wr.heap.size w3.drew (.slice a' M.length M.length) M:=KidsN.dr ⟨K2.1.below b3 Nat.le.refl,K2.2⟩
    have x4:w3.cell? ⟨X,3,none⟩=some (.slice a L.length L.length):=(b3.cell (p:=⟨X,3,none⟩) (World.block_lt_of_cell? _ _ x3)).trans x3
    have y4:w3.cell? ⟨Y,3,none⟩=some (.slice a' M.length M.length):=(b3.cell (p:=⟨Y,3,none⟩) (World.block_lt_of_cell? _ _ y3)).trans y3
    have hs3:w.heap.size<=w3.drew.heap.size:=Nat.le_trans hb.size bcw.size
    have hs4:=bcw.size
    have bbw:Below w.heap.size w w3.drew:=(hb.trans (bcw.mono hb.size)).drew
    clear HP HP' K1 K2 x0 x1 x2 x3 y0 y1 y2 y3 hal bc b3 hb
    go_region_held_law (fun w'=>w'.cell? ⟨X,3,none⟩=some (.slice a L.length L.length)/\w'.cell? ⟨Y,3,none⟩=some (.slice a' M.length M.length))
     (first
      | exact ⟨x4,y4⟩
      | exact ⟨x5,y5⟩
      | exact ⟨x6,y6⟩
      | go_keep)
     ((first
      | (have q1:=hA3;refine step_append_at _ (by rfl) (.tmp 36) (.tmp 38) 242 242 (by rfl) w.heap.size 130 i0 .nilIface 1 16 Tryz.underlying242 hi hz0 hz1 hz2 rfl _ st'.length _ (by rfl) q1 _ L.length L (by rfl) (K1'.1.src hTI.out.1) L.length (.inr (by omega)) Nat.le.refl (by unfold maxLen;omega) hs3 ?_;intro v5 w5 ho5 hg5 hl5;have x5:=hg5.cell (cell_dr x4) hxg;have y5:=hg5.cell (cell_dr y4) hyg;have hB5:=World.ownsRow.kept hB3 hg5 (.inr (fun e=>hgg (by simpa [Value.ownBlock] using e.symm)));have K5:=K2'.gr hg5 hgl;clear hA3 q1)
      | (refine step_append_at _ (by rfl) (.tmp 42) (.tmp 44) 242 242 (by rfl) w.heap.size 130 i0 .nilIface 1 16 Tryz.underlying242 hi hz0 hz1 hz2 rfl _ st'.length _ (by rfl) hB5 _ M.length M (by rfl) (K5.1.src hTI.out.2) M.length (.inr (by omega)) Nat.le.refl (by unfold maxLen;omega) (Nat.le_trans hs3 hg5.size) ?_;intro v6 w6 ho6 hg6 hl6;have x6:=hg6.cell x5 hxg';have y6:=hg6.cell y5 hyg')))
    have hz5:=World.ownsRow.lt ho5
    have hne5:v5.ownBlock≠some g':=fun e=>by
     rcases hl5 with q|q
     ·rw [e] at q
      exact hgg (by simpa [Value.ownBlock] using q.symm)
     ·rw [e] at q
      have q2:g'=w3.drew.heap.size:=by simpa using q
      have q3:w3.drew.heap.size=w3.heap.size:=rfl
      omega
    have hS5:Stk w6 w.heap.size v5 (st'++kidS ps):=Stk.push (n:=st'.length+L.length) (by rw [hLn.out]) (by rw [hLH.out];exact World.ownsRow.kept ho5 hg6 (.inr hne5))
    have hS6:Stk w6 w.heap.size v6 (su'++kidS qs):=Stk.push (n:=st'.length+M.length) hqs.out (by rw [hMH.out];exact ho6)
    have hO6:Hid (oneB v5 v6):=fun b h1 h2=>by
     rcases hl6 with q|q
     ·rw [h2] at q
      have q2:b=g':=by simpa [Value.ownBlock] using q
      exact hne5 (by rw [h1,q2])
     ·rw [h2] at q
      have q2:b=w5.heap.size:=by simpa using q
      have:=(hz5 b h1).2
      omega
    have b5:Below w.heap.size w w5:=bbw.grown hg5 hs3 (fun k hk=>by
     have e:g=k:=by simpa [Value.ownBlock] using hk
     omega)
    have b6:Below w.heap.size w w6:=b5.grown hg6 (Nat.le_trans hs3 hg5.size) (fun k hk=>by
     have e:g'=k:=by simpa [Value.ownBlock] using hk
     omega)
    clear ho5 ho6 hg5 hg6 hl5 hl6 hB5 K5 K1' K2' hB3 x4 y4 x5 y5 x6 y6 hz5 hne5 bbw b5 bcw hcell hcell'
    simp only [List.getElem_toArray,List.getElem_cons_succ,List.getElem_cons_zero,List.set_cons_succ,List.set_cons_zero,List.setIfInBounds_toArray]
    go_wp2
    go_roundg ((st'.map cntS).sum+(ps.map (cnt e1)).sum)
    case measure=>exact hgm
    case rel=>exact ⟨st'++kidS ps,su'++kidS qs,hS5,hS6,hO6,hNL,hNC,hNC',hV2,hNM,hNM',b6⟩
theorem same_d {u1 u2:Nat}{y1 y2:Value}{V:Bool}{w:World}(hs1:Hid (Start w (.iface u1 y1) (.iface u2 y2) V)):Calls Tryz.prog 130 #[(.iface u1 y1),(.iface u2 y2)] w fun r w'=>r=.returned (.bool V)/\Below w.heap.size w w':=by
 obtain ⟨i0,hi,hz0,hz1,hz2⟩:=info_parts Tryz.infoE
 go_enter Tryz.func130,Tryz.ntmps130
 go_wp2
 go_loopg [5,6] 2000 (fun gn p q wr=>∃ (st su:List Sg),Stk wr w.heap.size p st/\Stk wr w.heap.size q su/\Hid (oneB p q)/\Hid (st.length=su.length)/\Hid (∀ y∈st,ClS y)/\Hid (∀ y∈su,ClS y)/\Hid (allz samS st su=V)/\Hid ((st.map cntS).sum<=gn)/\Hid (gn<=2000/\(su.map cntS).sum<=2000)/\Below w.heap.size w wr)
 case atStart=>
  obtain ⟨S,S',h1,h2,h3,h4,h5,h6,h7,h8⟩:=hs1.out
  exact ⟨S,S',h1,h2,fun g hg hg'=>by simp [Value.ownBlock] at hg hg';omega,h3,h4,h5,h6,h7,⟨Nat.le_refl _,h8⟩,((Below.refl _ _).alloc Nat.le.refl _).alloc (by simp) _⟩
 case round=>
  clear hs1
  obtain ⟨st,su,hS,hS',hO,hL,hC,hC',hV,hM,hM',hb⟩:=hrel
  by_cases he:st=[]
  ·subst he
   obtain ⟨a,cap,rfl⟩:=hS.nil
   have hF:V=true:=by
    have h1:=hL.out
    have h2:su=[]:=List.eq_nil_of_length_eq_zero (by simpa using h1.symm)
    rw [<- hV.out,h2];rfl
   subst hF
   go_wp2
   go_ret
   exact ⟨rfl,hb⟩
  obtain ⟨st',x,rfl⟩:=last_of he
  have hne:su≠[]:=by
   intro e;have h1:=hL.out;rw [e] at h1;simp at h1
  obtain ⟨su',y,rfl⟩:=last_of hne
  obtain ⟨g,cap,rfl,hcap,hcm,hgb,hgl,hcell,hP⟩:=hS.pop
  obtain ⟨g',cap',rfl,hcap',hcm',hgb',hgl',hcell',hP'⟩:=hS'.pop
  have hlen:Hid (su'.length=st'.length):=by have h1:=hL.out;show _=_;simp at h1;exact h1.symm
  have hm:=hM.out
  have hm':=hM'.out
  rw [List.map_append,List.sum_append,List.map_singleton,List.sum_singleton] at hm hm'
  have hcl1:=hC.out x (by simp)
  have hcl2:=hC'.out y (by simp)
  obtain ⟨e1,t1⟩:=x
  obtain ⟨e2,t2⟩:=y
  cases e1 with
  | zero=>exact Empty.elim t1
  | succ e1=>
  cases e2 with
  | zero=>exact Empty.elim t2
  | succ e2=>
  obtain ⟨k,n,s,ps,rfl,htop⟩:=topN_any (d:=e1) (t:=t1) hcl1
  obtain ⟨k',n',s',qs,rfl,htop'⟩:=topN_any (d:=e2) (t:=t2) hcl2
  obtain ⟨L,hLL⟩:∃ L,ps.map (exV e1)=L:=⟨_,rfl⟩
  obtain ⟨M,hMM⟩:∃ M,qs.map (exV e2)=M:=⟨_,rfl⟩
  obtain ⟨z,hz⟩:∃ z,exS ⟨e1+1,mkT k n s ps⟩=z:=⟨_,rfl⟩
  obtain ⟨z',hz'⟩:∃ z,exS ⟨e2+1,mkT k' n' s' qs⟩=z:=⟨_,rfl⟩
  have s1:∀ w1,Calls Tryz.prog 192 #[z] w1 fun e w'=>∃ sl,e=.returned (.agg #[.int .i64 k,.int .i64 n,.string s,sl])/\KidsN w1.heap.size w' sl L/\Below w1.heap.size w1 w':=by rw [<- hz,<- hLL];exact htop
  have h2:Hid (∀ w1,Calls Tryz.prog 192 #[z'] w1 fun e w'=>∃ sl,e=.returned (.agg #[.int .i64 k',.int .i64 n',.string s',sl])/\KidsN w1.heap.size w' sl M/\Below w1.heap.size w1 w'):=by rw [<- hz',<- hMM];exact htop'
  have hTI:Hid ((∀ v∈L,Ifc v)/\(∀ v∈M,Ifc v)):=by rw [<- hLL,<- hMM];exact ⟨ifc_map ps,ifc_map qs⟩
  have hLH:Hid (ps.map (exV e1)=L):=hLL
  have hMH:Hid (qs.map (exV e2)=M):=hMM
  rw [hz] at hcell
  rw [hz',hlen.out] at hcell'
  rw [hlen.out] at hP'
  have hsl:st'.length<=2000:=by
   have q1:=stk_len st'
   have q2:=hM'.out.1
   omega
  have i1:((st'.length:Int)+1 > 0):=by omega
  have i3:(0:Int)<=(st'.length:Int):=by omega
  have i4:(st'.length:Int)<=(cap:Int):=by omega
  have i4':(st'.length:Int)<=(cap':Int):=by have:=hlen.out;omega
  have i5:(st'.length:Int) < (st'.length:Int)+1:=by omega
  have HP:Hid (Stk wr w.heap.size (.slice (some ⟨g,0,none⟩) st'.length cap) st'):=hP
  have HP':Hid (Stk wr w.heap.size (.slice (some ⟨g',0,none⟩) st'.length cap') su'):=hP'
  rw [hlen.out]
  clear hLL hMM hz hz' htop htop' hP hP' hS hS'
  go_wp2
  go_cut [5,6,7,8,9] (fun p5 p6 p7 p8 p9 wc=>p5=.slice (some ⟨g,0,none⟩) (st'.length+1) cap/\p6=.slice (some ⟨g',0,none⟩) (st'.length+1) cap'/\p7=.int .i64 (st'.length:Int)/\
   ∃ X Y a a',p8=.pointer (some ⟨X,0,none⟩)/\p9=.pointer (some ⟨Y,0,none⟩)/\Both wr wc X Y (.int .i64 k) (.int .i64 n) (.string s) (.slice a L.length L.length) (.int .i64 k') (.int .i64 n') (.string s') (.slice a' M.length M.length) L M)
  case first=>
   clear hO hL hC hC' hV hM hM' hLH hMH HP HP' hlen hm hm' hcl1 hcl2 hi hz0 hz1 hz2 hne he
   have n1:g≠wr.heap.size:=by omega
   have n2:g'≠wr.heap.size:=by omega
   have n3:g≠wr.heap.size+1:=by omega
   have n4:g'≠wr.heap.size+1:=by omega
   go_region_held_law (fun w'=>w'.cell? ⟨g,st'.length,none⟩=some z/\w'.cell? ⟨g',st'.length,none⟩=some z')
    ((refine ⟨?_,?_⟩<;>(repeat (with_reducible first|exact hcell|exact hcell' | exact c1|exact c1' | exact c2|exact c2' | refine cell_al ?_|refine cell_dr ?_|refine cell_far4 (ne_pt n1) ?_|refine cell_far4 (ne_pt n2) ?_|refine cell_far4 (ne_pt n3) ?_|refine cell_far4 (ne_pt n4) ?_|refine cell_far4 (ne_pt n5) ?_|refine cell_far4 (ne_pt n6) ?_|refine cell_far4 (ne_pt n7) ?_|refine cell_far4 (ne_pt n8) ?_|refine cell_far4 (ne_pt n9) ?_|refine cell_far4 (ne_pt m1) ?_|refine cell_far4 (ne_pt m2) ?_|refine cell_far4 (ne_pt m3) ?_))<;>done))
    ((first
    | (have s1':=s1;go_at_call 192;refine (s1' _).mono ?_;rintro e w1 ⟨sl,rfl,hk1,b1⟩;obtain ⟨a1,rfl⟩:=hk1.1.form;have s2:=h2.out;clear s1 s1' h2;
       have bw:Below wr.heap.size wr w1:=(by first|(with_reducible exact bw0 b1)|(with_reducible exact bw1 b1)|(with_reducible exact bw2 b1));
       have r1:wr.heap.size<=w1.heap.size:=bw.size;have k1:∀ gg,(Value.slice a1 L.length L.length).ownBlock=some gg->wr.heap.size<=gg:=fun gg hgg=>Nat.le_trans (by first|omega|(simp<;>omega)) (hk1.2 gg hgg);
       have n5:g≠w1.heap.size:=Nat.ne_of_lt (Nat.lt_of_lt_of_le hgl r1);have n6:g'≠w1.heap.size:=Nat.ne_of_lt (Nat.lt_of_lt_of_le hgl' r1);have n7:g≠w1.heap.size+1:=Nat.ne_of_lt (Nat.lt_succ_of_lt (Nat.lt_of_lt_of_le hgl r1));have n8:g'≠w1.heap.size+1:=Nat.ne_of_lt (Nat.lt_succ_of_lt (Nat.lt_of_lt_of_le hgl' r1));
       have c1:=(bw.cell (p:=⟨g,st'.length,none⟩) hgl).trans hcell;have c1':=(bw.cell (p:=⟨g',st'.length,none⟩) hgl').trans hcell';
       (try with_reducible have pA:z4 w1 wr.heap.size:=zA1 b1);
       (try with_reducible have pA:z4 w1 wr.heap.size:=zA2 b1);
       (try with_reducible have pB:z4 w1 (wr.heap.size+1):=zB2 b1))
    | (have s2':=s2;go_at_call 192;refine (s2' _).mono ?_;rintro e w2 ⟨sl,rfl,hk2,b2⟩;obtain ⟨a2,rfl⟩:=hk2.1.form;clear s2 s2';
       have bx:Below w1.heap.size w1 w2:=(by first|(with_reducible exact b2)|(with_reducible exact bx1 b2)|(with_reducible exact bx2 b2));
       have bv:Below wr.heap.size wr w2:=bw.trans (bx.mono r1);
       have r2:w1.heap.size<=w2.heap.size:=bx.size;
       have r3:wr.heap.size<=w2.heap.size:=bv.size;have K2:KidsN wr.heap.size w2 (.slice a2 M.length M.length) M:=⟨hk2.1,fun gg hgg=>Nat.le_trans (by first|omega|(simp<;>omega)) (hk2.2 gg hgg)⟩;have K1:KidsN wr.heap.size w2 (.slice a1 L.length L.length) L:=⟨hk1.1.below bx Nat.le.refl,k1⟩;
       have n9:g≠w2.heap.size:=Nat.ne_of_lt (Nat.lt_of_lt_of_le hgl r3);have m1:g'≠w2.heap.size:=Nat.ne_of_lt (Nat.lt_of_lt_of_le hgl' r3);have m2:g≠w2.heap.size+1:=Nat.ne_of_lt (Nat.lt_succ_of_lt (Nat.lt_of_lt_of_le hgl r3));have m3:g'≠w2.heap.size+1:=Nat.ne_of_lt (Nat.lt_succ_of_lt (Nat.lt_of_lt_of_le hgl' r3));
       have c2:=(bv.cell (p:=⟨g,st'.length,none⟩) hgl).trans hcell;have c2':=(bv.cell (p:=⟨g',st'.length,none⟩) hgl').trans hcell';
       (try with_reducible have qA:z4 w2 wr.heap.size:=B4.keep' bx pA);
       (try with_reducible have qB:z4 w2 (wr.heap.size+1):=B4.keep' bx pB);
       (try with_reducible have rA:z4 w2 w1.heap.size:=zC1 b2);
       (try with_reducible have rA:z4 w2 w1.heap.size:=zC2 b2);
       (try with_reducible have rB:z4 w2 (w1.heap.size+1):=zD2 b2);
       (try obtain ⟨qa0,qa1,qa2,qa3,qa4,qa5,qa6,qa7⟩:=id qA);
       (try have qax:=z4_al qA);
       (try have qan:=Nat.ne_of_lt qA.lt);
       (try have qam:=(Nat.ne_of_lt qA.lt).symm);
       (try obtain ⟨qb0,qb1,qb2,qb3,qb4,qb5,qb6,qb7⟩:=id qB);
       (try have qbx:=z4_al qB);
       (try have qbn:=Nat.ne_of_lt qB.lt);
       (try have qbm:=(Nat.ne_of_lt qB.lt).symm);
       (try obtain ⟨ra0,ra1,ra2,ra3,ra4,ra5,ra6,ra7⟩:=id rA);
       (try have rax:=z4_al rA);
       (try have ran:=Nat.ne_of_lt rA.lt);
       (try have ram:=(Nat.ne_of_lt rA.lt).symm);
       (try obtain ⟨rb0,rb1,rb2,rb3,rb4,rb5,rb6,rb7⟩:=id rB);
       (try have rbx:=z4_al rB);
       (try have rbn:=Nat.ne_of_lt rB.lt);
       (try have rbm:=(Nat.ne_of_lt rB.lt).symm);
       (try have pan:=Nat.ne_of_lt pA.lt);
       (try have pam:=(Nat.ne_of_lt pA.lt).symm);
       (try have pbn:=Nat.ne_of_lt pB.lt);
       (try have pbm:=(Nat.ne_of_lt pB.lt).symm))))
   all_goals (go_wp2_with fail;go_meet;refine ⟨rfl,rfl,rfl,_,_,a1,a2,rfl,rfl,?_⟩)
   all_goals first
    | (with_reducible exact fin_A bv K1 K2)
    | (with_reducible exact fin_E bv K1 K2)
    | ((with_reducible refine fin_C bv hTI.out K1 K2 ?_ ?_ ?_ ?_ ?_)<;>first|assumption|omega)
    | ((with_reducible refine fin_B bv hTI.out K1 K2 ?_ ?_)<;>first|assumption|omega)
    | ((with_reducible refine fin_D bv hTI.out K1 K2 ?_ ?_)<;>first|assumption|omega)
  case rest=>
   obtain ⟨rfl,rfl,rfl,X,Y,a,a',rfl,rfl,hX,hY,K1,K2,lX,lY,bc⟩:=hcut
   obtain ⟨x0,x1,x2,x3⟩:=id hX
   obtain ⟨y0,y1,y2,y3⟩:=id hY
   have hal:=fun w1=>alike_any k n s a L.length k' n' s' a' M.length (cl_n hcl1).1 w1
   have hap:=allz_app samS st' su' [⟨e1+1,mkT k n s ps⟩] [⟨e2+1,mkT k' n' s' qs⟩] hlen.out.symm
   have hap1:allz samS [⟨e1+1,mkT k n s ps⟩] [⟨e2+1,mkT k' n' s' qs⟩]=(samS ⟨e1+1,mkT k n s ps⟩ ⟨e2+1,mkT k' n' s' qs⟩ && true):=rfl
   have hVV:=hV.out
   rw [hap,hap1,Bool.and_true] at hVV
   cases hq:alk k n s k' n' s' with
   | false=>
    simp only [hq] at hal
    have hF:V=false:=by rw [<- hVV,sam_no hq,Bool.and_false]
    subst hF
    clear hVV hap hap1 hV hO hL hC hC' hM hM' hTI hLH hMH HP HP' hlen hm hm' hcl1 hcl2 hq K1 K2 s1 h2 hX hY
    go_wp2_with (first
     | (go_at_call 193;refine (hal _).mono ?_;rintro e w3 ⟨rfl,b3⟩))
    go_ret
    exact ⟨rfl,(hb.trans (bc.mono hb.size)).trans (b3.mono (Nat.le_trans hb.size bc.size))⟩
   | true=>
    simp only [hq] at hal
    obtain ⟨hpq,hsam⟩:=sam_yes hq hcl1 hcl2
    rw [hsam,<- allz_kid] at hVV
    have hV2:Hid (allz samS (st'++kidS ps) (su'++kidS qs)=V):=by show _=_;rw [allz_app samS st' su' _ _ hlen.out.symm];exact hVV
    clear hVV hap hap1 hV hq s1 h2 hX hY
    have hgg:g≠g':=fun e=>hO.out g rfl (by rw [e];rfl)
    have hL2:L.length<=2:=by rw [<- hLH.out];simpa using (Cl.parts hcl1).1
    have hM2:M.length<=2:=by rw [<- hMH.out];simpa using (Cl.parts hcl2).1
    have hLn:Hid (L.length=ps.length):=by rw [<- hLH.out];show _=_;simp
    have hMn:Hid (M.length=qs.length):=by rw [<- hMH.out];show _=_;simp
    have hcx:cntS ⟨e1+1,mkT k n s ps⟩=(ps.map (cnt e1)).sum+1:=cnt_mk k n s ps
    have hcy:cntS ⟨e2+1,mkT k' n' s' qs⟩=(qs.map (cnt e2)).sum+1:=cnt_mk k' n' s' qs
    rw [hcx] at hm
    rw [hcy] at hm'
    have hNC:Hid (∀ y∈st'++kidS ps,ClS y):=fun y hy=>by
     rcases List.mem_append.1 hy with h|h
     ·exact hC.out y (by simp [h])
     ·obtain ⟨p,hp,rfl⟩:=List.mem_map.1 h
      exact (Cl.parts hcl1).2 p hp
    have hNC':Hid (∀ y∈su'++kidS qs,ClS y):=fun y hy=>by
     rcases List.mem_append.1 hy with h|h
     ·exact hC'.out y (by simp [h])
     ·obtain ⟨p,hp,rfl⟩:=List.mem_map.1 h
      exact (Cl.parts hcl2).2 p hp
    have hNM:Hid (((st'++kidS ps).map cntS).sum<=(st'.map cntS).sum+(ps.map (cnt e1)).sum):=by show _<=_;rw [List.map_append,List.sum_append,kidS_cnt];exact Nat.le_refl _
    have hNM':Hid ((st'.map cntS).sum+(ps.map (cnt e1)).sum<=2000/\((su'++kidS qs).map cntS).sum<=2000):=by
     refine ⟨by omega,?_⟩
     rw [List.map_append,List.sum_append,kidS_cnt]
     omega
    have hNL:Hid ((st'++kidS ps).length=(su'++kidS qs).length):=by show _=_;rw [List.length_append,List.length_append,kidS_len,kidS_len,hlen.out,hpq]
    have hgm:(st'.map cntS).sum+(ps.map (cnt e1)).sum < gk:=by omega
    have hxg:some X≠some g:=by simp;omega
    have hyg:some Y≠some g:=by simp;omega
    have hxg':some X≠some g':=by simp;omega
    have hyg':some Y≠some g':=by simp;omega
    have hqs:Hid (st'.length+M.length=su'.length+qs.length):=by show _=_;rw [hlen.out,hMn.out]
    clear hm hm' hcx hcy hC hC' hM hM' hL hcl1 hcl2 hsam hpq hO
    go_wp2_with (first
     | (go_at_call 193;refine (hal _).mono ?_;rintro e w3 ⟨rfl,b3⟩))
    have bcw:Below wr.heap.size wr w3:=bc.trans (b3.mono bc.size)
    have hA3:w3.drew.ownsRow w.heap.size 130 1 (.slice (some ⟨g,0,none⟩) st'.length cap) st'.length (st'.map exS):=HP.out.on bcw.drew Nat.le.refl
    have hB3:w3.drew.ownsRow w.heap.size 130 1 (.slice (some ⟨g',0,none⟩) st'.length cap') st'.length (su'.map exS):=by
     have:=HP'.out.on bcw.drew Nat.le.refl
     unfold Stk at this
     rw [hlen.out] at this
     exact this
    have K1':KidsN wr.heap.size w3.drew (.slice a L.length L.length) L:=KidsN.dr ⟨K1.1.below b3 Nat.le.refl,K1.2⟩
    have K2':KidsN wr.heap.size w3.drew (.slice a' M.length M.length) M:=KidsN.dr ⟨K2.1.below b3 Nat.le.refl,K2.2⟩
    have x4:w3.cell? ⟨X,3,none⟩=some (.slice a L.length L.length):=(b3.cell (p:=⟨X,3,none⟩) (World.block_lt_of_cell? _ _ x3)).trans x3
    have y4:w3.cell? ⟨Y,3,none⟩=some (.slice a' M.length M.length):=(b3.cell (p:=⟨Y,3,none⟩) (World.block_lt_of_cell? _ _ y3)).trans y3
    have hs3:w.heap.size<=w3.drew.heap.size:=Nat.le_trans hb.size bcw.size
    have hs4:=bcw.size
    have bbw:Below w.heap.size w w3.drew:=(hb.trans (bcw.mono hb.size)).drew
    clear HP HP' K1 K2 x0 x1 x2 x3 y0 y1 y2 y3 hal bc b3 hb
    go_region_held_law (fun w'=>w'.cell? ⟨X,3,none⟩=some (.slice a L.length L.length)/\w'.cell? ⟨Y,3,none⟩=some (.slice a' M.length M.length))
     (first
      | exact ⟨x4,y4⟩
      | exact ⟨x5,y5⟩
      | exact ⟨x6,y6⟩
      | go_keep)
     ((first
      | (have q1:=hA3;refine step_append_at _ (by rfl) (.tmp 36) (.tmp 38) 242 242 (by rfl) w.heap.size 130 i0 .nilIface 1 16 Tryz.underlying242 hi hz0 hz1 hz2 rfl _ st'.length _ (by rfl) q1 _ L.length L (by rfl) (K1'.1.src hTI.out.1) L.length (.inr (by omega)) Nat.le.refl (by unfold maxLen;omega) hs3 ?_;intro v5 w5 ho5 hg5 hl5;have x5:=hg5.cell (cell_dr x4) hxg;have y5:=hg5.cell (cell_dr y4) hyg;have hB5:=World.ownsRow.kept hB3 hg5 (.inr (fun e=>hgg (by simpa [Value.ownBlock] using e.symm)));have K5:=K2'.gr hg5 hgl;clear hA3 q1)
      | (refine step_append_at _ (by rfl) (.tmp 42) (.tmp 44) 242 242 (by rfl) w.heap.size 130 i0 .nilIface 1 16 Tryz.underlying242 hi hz0 hz1 hz2 rfl _ st'.length _ (by rfl) hB5 _ M.length M (by rfl) (K5.1.src hTI.out.2) M.length (.inr (by omega)) Nat.le.refl (by unfold maxLen;omega) (Nat.le_trans hs3 hg5.size) ?_;intro v6 w6 ho6 hg6 hl6;have x6:=hg6.cell x5 hxg';have y6:=hg6.cell y5 hyg')))
    have hz5:=World.ownsRow.lt ho5
    have hne5:v5.ownBlock≠some g':=fun e=>by
     rcases hl5 with q|q
     ·rw [e] at q
      exact hgg (by simpa [Value.ownBlock] using q.symm)
     ·rw [e] at q
      have q2:g'=w3.drew.heap.size:=by simpa using q
      have q3:w3.drew.heap.size=w3.heap.size:=rfl
      omega
    have hS5:Stk w6 w.heap.size v5 (st'++kidS ps):=Stk.push (n:=st'.length+L.length) (by rw [hLn.out]) (by rw [hLH.out];exact World.ownsRow.kept ho5 hg6 (.inr hne5))
    have hS6:Stk w6 w.heap.size v6 (su'++kidS qs):=Stk.push (n:=st'.length+M.length) hqs.out (by rw [hMH.out];exact ho6)
    have hO6:Hid (oneB v5 v6):=fun b h1 h2=>by
     rcases hl6 with q|q
     ·rw [h2] at q
      have q2:b=g':=by simpa [Value.ownBlock] using q
      exact hne5 (by rw [h1,q2])
     ·rw [h2] at q
      have q2:b=w5.heap.size:=by simpa using q
      have:=(hz5 b h1).2
      omega
    have b5:Below w.heap.size w w5:=bbw.grown hg5 hs3 (fun k hk=>by
     have e:g=k:=by simpa [Value.ownBlock] using hk
     omega)
    have b6:Below w.heap.size w w6:=b5.grown hg6 (Nat.le_trans hs3 hg5.size) (fun k hk=>by
     have e:g'=k:=by simpa [Value.ownBlock] using hk
     omega)
    clear ho5 ho6 hg5 hg6 hl5 hl6 hB5 K5 K1' K2' hB3 x4 y4 x5 y5 x6 y6 hz5 hne5 bbw b5 bcw hcell hcell'
    simp only [List.getElem_toArray,List.getElem_cons_succ,List.getElem_cons_zero,List.set_cons_succ,List.set_cons_zero,List.setIfInBounds_toArray]
    go_wp2
    go_roundg ((st'.map cntS).sum+(ps.map (cnt e1)).sum)
    case measure=>exact hgm
    case rel=>exact ⟨st'++kidS ps,su'++kidS qs,hS5,hS6,hO6,hNL,hNC,hNC',hV2,hNM,hNM',b6⟩
theorem sameE {d:Nat}(t:T d) (w:World) (hc:Cl d t) (hn:cnt d t<=2000):Calls Tryz.prog 130 #[exV d t,exV d t] w fun r w'=>r=.returned (.bool (samC d d t t))/\Below w.heap.size w w':=by
 have hs:Hid (Start w (exV d t) (exV d t) (samC d d t t)):=start_any w hc hc hn hn
 rcases exV_form d t with h|⟨u1,y1,h⟩<;>rw [h] at hs ⊢
 ·exact same_a hs
 ·exact same_d hs
theorem sameX {x:Sx}(h:ExOk x) (w:World):Calls Tryz.prog 130 #[exX x,exX x] w fun e w'=>e=.returned (.bool true)/\Below w.heap.size w w':=by
 refine (sameE x.2 w h.1 h.2.1).mono ?_
 rintro e w' ⟨he,hb⟩
 exact ⟨by rw [he,sam_of (x:=x) (y:=x) rfl],hb⟩
theorem sset_nil (s0:ByteArray) (w:World) (hs:∀ w1,Below w.heap.size w w1->Calls Tryz.prog 130 #[.nilIface,.nilIface] w1 fun e w'=>e=.returned (.bool true)/\Below w1.heap.size w1 w'):Calls Tryz.prog 132 #[.agg #[.string s0,.nilIface],.agg #[.string s0,.nilIface]] w fun e w'=>e=.returned (.bool true)/\Below w.heap.size w w':=by
 have hal:Below w.heap.size w ((w.alloc (.cells #[.string s0,.nilIface] 136)).alloc (.cells #[.string s0,.nilIface] 136)):=((Below.refl w.heap.size w).alloc Nat.le.refl _).alloc (by simp) _
 have hX:Bn ((w.alloc (.cells #[.string s0,.nilIface] 136)).alloc (.cells #[.string s0,.nilIface] 136)) w.heap.size [.string s0,.nilIface]:=(Bn.new w [.string s0,.nilIface] 136 _ rfl).on ((Below.refl _ _).alloc Nat.le.refl _)
 have hY:Bn ((w.alloc (.cells #[.string s0,.nilIface] 136)).alloc (.cells #[.string s0,.nilIface] 136)) (w.heap.size+1) [.string s0,.nilIface]:=Bn.new (w.alloc (.cells #[.string s0,.nilIface] 136)) [.string s0,.nilIface] 136 _ (by simp)
 go_enter Tryz.func132,Tryz.ntmps132
 go_upto_region 1 with fail
 generalize ((w.alloc (.cells #[.string s0,.nilIface] 136)).alloc (.cells #[.string s0,.nilIface] 136))=wx at *
 have hB:Below wx.heap.size wx wx:=Below.refl _ _
 have x0:=(hX 0 _ rfl).1
 have y0:=(hY 0 _ rfl).1
 have x1:=(hX 1 _ rfl).1
 have y1:=(hY 1 _ rfl).1
 go_wp2_with (first
  | (go_at_call 130;refine (hs _ (hal.trans (hB.mono hal.size))).mono ?_;rintro e w1 ⟨rfl,b1⟩;have hB:=Below.nx hB b1;skip)
  | fail)
 go_ret
 exact ⟨rfl,hal.trans (hB.mono hal.size)⟩
theorem sset_ifc (s0:ByteArray) (tu:TypeId) (ty:Value) (w:World) (hs:∀ w1,Below w.heap.size w w1->Calls Tryz.prog 130 #[.iface tu ty,.iface tu ty] w1 fun e w'=>e=.returned (.bool true)/\Below w1.heap.size w1 w'):Calls Tryz.prog 132 #[.agg #[.string s0,.iface tu ty],.agg #[.string s0,.iface tu ty]] w fun e w'=>e=.returned (.bool true)/\Below w.heap.size w w':=by
 have hal:Below w.heap.size w ((w.alloc (.cells #[.string s0,.iface tu ty] 136)).alloc (.cells #[.string s0,.iface tu ty] 136)):=((Below.refl w.heap.size w).alloc Nat.le.refl _).alloc (by simp) _
 have hX:Bn ((w.alloc (.cells #[.string s0,.iface tu ty] 136)).alloc (.cells #[.string s0,.iface tu ty] 136)) w.heap.size [.string s0,.iface tu ty]:=(Bn.new w [.string s0,.iface tu ty] 136 _ rfl).on ((Below.refl _ _).alloc Nat.le.refl _)
 have hY:Bn ((w.alloc (.cells #[.string s0,.iface tu ty] 136)).alloc (.cells #[.string s0,.iface tu ty] 136)) (w.heap.size+1) [.string s0,.iface tu ty]:=Bn.new (w.alloc (.cells #[.string s0,.iface tu ty] 136)) [.string s0,.iface tu ty] 136 _ (by simp)
 go_enter Tryz.func132,Tryz.ntmps132
 go_upto_region 1 with fail
 generalize ((w.alloc (.cells #[.string s0,.iface tu ty] 136)).alloc (.cells #[.string s0,.iface tu ty] 136))=wx at *
 have hB:Below wx.heap.size wx wx:=Below.refl _ _
 have x0:=(hX 0 _ rfl).1
 have y0:=(hY 0 _ rfl).1
 have x1:=(hX 1 _ rfl).1
 have y1:=(hY 1 _ rfl).1
 go_wp2_with (first
  | (go_at_call 130;refine (hs _ (hal.trans (hB.mono hal.size))).mono ?_;rintro e w1 ⟨rfl,b1⟩;have hB:=Below.nx hB b1;skip)
  | fail)
 go_ret
 exact ⟨rfl,hal.trans (hB.mono hal.size)⟩
theorem eqfSet_any  {ok ok':Nat->Prop}{w:World}{l:List (List UInt8 × Sx)}{v v':Value}(h:RdK ok w 2 (rSet ok w) l v) (h':RdK ok' w 2 (rSet ok' w) l v') (hok:∀ s∈l,SetOk s) :
  Calls Tryz.prog 131 #[v,v',.func (.func 132) #[] #[]] w fun e w'=>e=.returned (.bool true)/\Below w.heap.size w w':=by
 obtain ⟨a,cap,rfl,hlc,hcm⟩:=h.form
 obtain ⟨a',cap',rfl,hlc',hcm'⟩:=h'.form
 unfold maxLen at hcm hcm'
 have HC:=mkHid h
 have HC':=mkHid h'
 have HK:=mkHid hok
 obtain ⟨n,hn⟩:∃ n,l.length=n:=⟨_,rfl⟩
 rw [hn] at hlc hlc' ⊢
 have HN:Hid (l.length=n):=hn
 clear h h' hok hn
 go_enter Tryz.func131,Tryz.ntmps131
 go_wp2
 go_loopw [17] (fun ix wr=>∃ (i:Nat),i<=n/\ix=.int .i64 (i:Int)/\Below w.heap.size w wr) (fun ix _=>n - (RowKit.intOf ix).toNat)
 case atStart=>exact ⟨0,Nat.zero_le _,rfl,Below.refl _ _⟩
 case round=>
  obtain ⟨i,hi,rfl,hb⟩:=hrel
  by_cases hlt:i < n
  ·have hil:i < l.length:=by rw [HN.out];exact hlt
   obtain ⟨b,off,rfl,hbl,hc⟩:=setQ_at HC.out i hil
   obtain ⟨b',off',rfl,hbl',hc'⟩:=setQ_at HC'.out i hil
   have hks:=HK.out _ (List.getElem_mem hil)
   obtain ⟨q,hq⟩:∃ q,l[i]=q:=⟨_,rfl⟩
   rw [hq] at hc hc' hks
   obtain ⟨s0,hs0⟩:∃ s0,sV q.1=.string s0:=⟨_,rfl⟩
   have hform:=exX_form q.2
   have hsm:=sameX hks.2
   obtain ⟨tv,htv⟩:∃ tv,exX q.2=tv:=⟨_,rfl⟩
   rw [hs0,htv] at hc hc'
   rw [htv] at hform hsm
   clear hs0 htv hq hks
   have i1:(i:Int) < (n:Int):=by omega
   have i2:(0:Int)<=(i:Int):=by omega
   have C0:=(hb.cell (p:=⟨b,off+i*2+0,none⟩) hbl).trans (hc 0 _ rfl)
   have D0:=(hb.cell (p:=⟨b',off'+i*2+0,none⟩) hbl').trans (hc' 0 _ rfl)
   have C1:=(hb.cell (p:=⟨b,off+i*2+1,none⟩) hbl).trans (hc 1 _ rfl)
   have D1:=(hb.cell (p:=⟨b',off'+i*2+1,none⟩) hbl').trans (hc' 1 _ rfl)
   clear hc hc'
   rcases hform with rfl|⟨tu,ty,rfl⟩
   ·have hal:Below wr.heap.size wr ((wr.alloc (.cells #[.string s0,.nilIface] 136)).alloc (.cells #[.string s0,.nilIface] 136)):=((Below.refl _ _).alloc Nat.le.refl _).alloc (by simp) _
    have hX:Bn ((wr.alloc (.cells #[.string s0,.nilIface] 136)).alloc (.cells #[.string s0,.nilIface] 136)) wr.heap.size [.string s0,.nilIface]:=(Bn.new wr [.string s0,.nilIface] 136 _ rfl).on ((Below.refl _ _).alloc Nat.le.refl _)
    have hY:Bn ((wr.alloc (.cells #[.string s0,.nilIface] 136)).alloc (.cells #[.string s0,.nilIface] 136)) (wr.heap.size+1) [.string s0,.nilIface]:=Bn.new (wr.alloc (.cells #[.string s0,.nilIface] 136)) [.string s0,.nilIface] 136 _ (by simp)
    have hal1:=(Below.refl wr.heap.size wr).alloc Nat.le.refl (.cells #[.string s0,.nilIface] 136)
    have E0:=(hal1.cell (p:=⟨b',off'+i*2+0,none⟩) (Nat.lt_of_lt_of_le hbl' hb.size)).trans D0
    have E1:=(hal1.cell (p:=⟨b',off'+i*2+1,none⟩) (Nat.lt_of_lt_of_le hbl' hb.size)).trans D1
    rw [Nat.add_zero] at E0 C0
    have hbx:=hb.trans (hal.mono hb.size)
    have hcall:∀ w1,Below w.heap.size w w1->Calls Tryz.prog 132 #[.agg #[.string s0,.nilIface],.agg #[.string s0,.nilIface]] w1 fun e w'=>e=.returned (.bool true)/\Below w1.heap.size w1 w':=fun w1 _=>sset_nil s0 w1 (fun w2 _=>hsm w2)
    go_upto_region 7 with fail
    clear C0 D0 E0 C1 D1 E1 hal1
    generalize ((wr.alloc (.cells #[.string s0,.nilIface] 136)).alloc (.cells #[.string s0,.nilIface] 136))=wx at *
    have x0:=(hX 0 _ rfl).1
    have y0:=(hY 0 _ rfl).1
    have x1:=(hX 1 _ rfl).1
    have y1:=(hY 1 _ rfl).1
    go_wp2_with (first
     | (go_at_call 132;refine (hcall _ hbx).mono ?_;rintro e w1 ⟨rfl,b1⟩)
     | fail)
    have hb2:=hbx.trans (b1.mono hbx.size)
    go_wp2
    go_roundw
    case rel=>exact ⟨i+1,hlt,by go_num,hb2⟩
    case measure=>simp [RowKit.intOf];omega
   ·have hal:Below wr.heap.size wr ((wr.alloc (.cells #[.string s0,.iface tu ty] 136)).alloc (.cells #[.string s0,.iface tu ty] 136)):=((Below.refl _ _).alloc Nat.le.refl _).alloc (by simp) _
    have hX:Bn ((wr.alloc (.cells #[.string s0,.iface tu ty] 136)).alloc (.cells #[.string s0,.iface tu ty] 136)) wr.heap.size [.string s0,.iface tu ty]:=(Bn.new wr [.string s0,.iface tu ty] 136 _ rfl).on ((Below.refl _ _).alloc Nat.le.refl _)
    have hY:Bn ((wr.alloc (.cells #[.string s0,.iface tu ty] 136)).alloc (.cells #[.string s0,.iface tu ty] 136)) (wr.heap.size+1) [.string s0,.iface tu ty]:=Bn.new (wr.alloc (.cells #[.string s0,.iface tu ty] 136)) [.string s0,.iface tu ty] 136 _ (by simp)
    have hal1:=(Below.refl wr.heap.size wr).alloc Nat.le.refl (.cells #[.string s0,.iface tu ty] 136)
    have E0:=(hal1.cell (p:=⟨b',off'+i*2+0,none⟩) (Nat.lt_of_lt_of_le hbl' hb.size)).trans D0
    have E1:=(hal1.cell (p:=⟨b',off'+i*2+1,none⟩) (Nat.lt_of_lt_of_le hbl' hb.size)).trans D1
    rw [Nat.add_zero] at E0 C0
    have hbx:=hb.trans (hal.mono hb.size)
    have hcall:∀ w1,Below w.heap.size w w1->Calls Tryz.prog 132 #[.agg #[.string s0,.iface tu ty],.agg #[.string s0,.iface tu ty]] w1 fun e w'=>e=.returned (.bool true)/\Below w1.heap.size w1 w':=fun w1 _=>sset_ifc s0 tu ty w1 (fun w2 _=>hsm w2)
    go_upto_region 7 with fail
    clear C0 D0 E0 C1 D1 E1 hal1
    generalize ((wr.alloc (.cells #[.string s0,.iface tu ty] 136)).alloc (.cells #[.string s0,.iface tu ty] 136))=wx at *
    have x0:=(hX 0 _ rfl).1
    have y0:=(hY 0 _ rfl).1
    have x1:=(hX 1 _ rfl).1
    have y1:=(hY 1 _ rfl).1
    go_wp2_with (first
     | (go_at_call 132;refine (hcall _ hbx).mono ?_;rintro e w1 ⟨rfl,b1⟩)
     | fail)
    have hb2:=hbx.trans (b1.mono hbx.size)
    go_wp2
    go_roundw
    case rel=>exact ⟨i+1,hlt,by go_num,hb2⟩
    case measure=>simp [RowKit.intOf];omega
  ·have i1:¬ (i:Int) < (n:Int):=by omega
   go_wp2
   go_ret
   exact ⟨rfl,hb⟩
