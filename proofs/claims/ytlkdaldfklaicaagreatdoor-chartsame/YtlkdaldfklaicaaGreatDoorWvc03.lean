import Derived.Test.YtlkdaldfklaicaaGreatDoorWvc02
import Derived.Test.YtlkdaldfklaicaaGreatDoorWvc01
import Derived.BigQuiet
import Derived.Deep.QuietTactic
import Derived.BigRegion
import Derived.Lib.ParseIntBCases
import Derived.Lib.AtoiAll
import Derived.Test.YtlkdaldfklaicaaGreatDoorRows
namespace Go.Proofs.YtlkdaldfklaicaaGreatDoor
open Go.RowKit Go.Lib
set_option linter.unusedSimpArgs false
set_option linter.unusedVariables false
attribute [local go_sem ↓] Go.wp_at_zero Go.wp_at_succ
structure OneW (K:Nat) (seg:List Ru):Prop where
 k:K≠0
 f:zat seg=(K,seg.length)
 g:∀ v∈seg,zgw v
 h:∃ v t,seg=v :: t/\v.1≠10/\v.1≠32/\v.1≠9/\v.1≠35
 l:(byt seg).length<=12000
theorem zgS (rs:List Ru) (m:Nat):(byt (rs.take m)).length<=(byt rs).length:=by have:=zbY rs m;omega
theorem zdR (rs:List Ru) (m:Nat):(byt (rs.drop m)).length<=(byt rs).length:=by have:=zbY rs m;omega
theorem zcF:∀ (f:Nat) (rs:List Ru),rs.length<=f->(∀ v∈rs,v.1≠-1->zgw v)->(byt rs).length<=12000->∀ (ln co:Int) (n:Nat),n<=3000->(zbp rs ln co n).2.2=0->
  (∀ w∈(zbp rs ln co n).1,OneW w.1 w.2.1)/\n+(zbp rs ln co n).1.length<=3000
 | 0,rs,h,_,_,ln,co,n,hn,_=>by
  have:rs=[]:=List.eq_nil_of_length_eq_zero (by omega)
  subst this
  exact ⟨(fun w hw=>(by cases hw)),by rw [zc9];simpa using hn⟩
 | f+1,[],h,_,_,ln,co,n,hn,_=>⟨(fun w hw=>(by cases hw)),by rw [zc9];simpa using hn⟩
 | f+1,v :: t,h,hg,hb,ln,co,n,hn,h0=>by
  have ht:t.length<=f:=by simp at h;omega
  have hgt:∀ v∈t,v.1≠-1->zgw v:=fun x hx=>hg x (List.mem_cons_of_mem _ hx)
  have hbt:(byt t).length<=12000:=by rw [zaQ,List.length_append] at hb;omega
  have e:=zdN v t ln co n
  by_cases c1:v.1=10
  ·simp only [if_pos c1] at e
   rw [e] at h0 ⊢
   exact zcF f t ht hgt hbt _ _ _ hn h0
  simp only [if_neg c1] at e
  by_cases c2:v.1=32∨v.1=9
  ·simp only [if_pos c2] at e
   rw [e] at h0 ⊢
   exact zcF f t ht hgt hbt _ _ _ hn h0
  simp only [if_neg c2] at e
  by_cases c3:v.1=35
  ·simp only [if_pos c3] at e
   have hp:=zdt (t:=t) c1
   rw [e] at h0 ⊢
   exact zcF f _ (by rw [List.length_drop];simp;omega) (fun x hx=>hg x (List.mem_of_mem_drop hx)) (zn5 (zdR _ _) hb) _ _ _ hn h0
  simp only [if_neg c3] at e
  by_cases c4:(zat (v :: t)).1=0
  ·simp only [if_pos c4] at e
   rw [e] at h0;simp at h0
  simp only [if_neg c4] at e
  by_cases c5:n=3000
  ·simp only [if_pos c5] at e
   rw [e] at h0;simp at h0
  simp only [if_neg c5] at e
  obtain ⟨hm,hm2⟩:=zdc v t c4
  obtain ⟨hf,hgd⟩:=zjt c4
  rw [e] at h0 ⊢
  obtain ⟨hr0,hX⟩:=znd h0
  have ih:=zcF f _ (by rw [List.length_drop];simp;omega) (fun x hx=>hg x (List.mem_of_mem_drop hx)) (zn5 (zdR _ _) hb) _ _ _ (by omega) hr0
  rw [hX]
  refine ⟨fun w hw=>?_,by rw [List.length_cons];omega⟩
  rcases List.mem_cons.1 hw with rfl|hw
  ·have hl:((v :: t).take (zat (v :: t)).2).length=(zat (v :: t)).2:=by rw [List.length_take];omega
   refine ⟨c4,?_,fun x hx=>hg x (List.mem_of_mem_take hx) (hgd x hx),?_,zn5 (zgS _ _) hb⟩
   ·show zat ((v :: t).take (zat (v :: t)).2)=_
    rw [hf,hl]
   ·obtain ⟨m,hmm⟩:∃ m,(zat (v :: t)).2=m+1:=⟨(zat (v :: t)).2 - 1,by omega⟩
    refine ⟨v,t.take m,?_,c1,fun h=>c2 (.inl h),fun h=>c2 (.inr h),c3⟩
    show (v :: t).take (zat (v :: t)).2=_
    rw [hmm,List.take_succ_cons]
  ·exact ih.1 w hw
theorem zjE {l:List UInt8}(h:(zaj l).2.2=0):(∀ w∈(zaj l).1,OneW w.1 w.2.1)/\(zaj l).1.length<=3000:=by
 by_cases hl:12000 < l.length
 ·unfold zaj at h;rw [if_pos hl] at h;simp at h
 have e:zaj l=zbp (runes l) 1 1 0:=by unfold zaj;rw [if_neg hl]
 rw [e] at h ⊢
 have:=zcF _ _ zn2 (zbD _ l zn2) (by rw [zan _ l zn2];omega) 1 1 0 (by omega) h
 exact ⟨this.1,by omega⟩
theorem OneW.runes {K:Nat}{seg:List Ru}(h:OneW K seg):runes (byt seg)=seg:=by
 have:=zcD seg [] h.g
 rw [List.append_nil,zbt,List.append_nil] at this
 exact this
theorem OneW.words {K:Nat}{seg:List Ru}(h:OneW K seg):zaj (byt seg)=([(K,seg,1,1)],(0,0),0):=by
 have hr:=h.runes
 have hl:=h.l
 have hf:=h.f
 have hk:=h.k
 unfold zaj
 rw [if_neg (by omega),hr]
 obtain ⟨v,t,e,h1,h2,h3,h4⟩:=h.h
 rw [e] at hf ⊢
 rw [zdN,if_neg h1,if_neg (fun q=>q.elim h2 h3),if_neg h4,hf,if_neg hk,if_neg (by decide),List.take_length,List.drop_length,zc9]
 rfl
theorem OneW.kind {K:Nat}{seg:List Ru}(h:OneW K seg):(K=1/\zae (byt seg)=true)∨(K=2/\zai (byt seg)=true)∨(K=3/\∃ v t,seg=v :: t/\zS v.1=false/\dgt v.1=false):=by
 have hr:=h.runes
 have hf:=h.f
 have hk:=h.k
 obtain ⟨v,t,e,_⟩:=h.h
 have hbne:byt seg≠[]:=fun e0=>by rw [e0,zbt] at hr;rw [<- hr] at e;cases e
 have hnx:(nx (byt seg)).1=v.1:=by
  have:=zq hbne
  rw [hr,e] at this
  injection this with h1 _
  rw [e]
  exact (congrArg Prod.fst h1).symm
 rw [e,zbw,<- e] at hf
 by_cases a:zS v.1=true
 ·rw [if_pos a] at hf
  by_cases b:spn seg<=24
  ·rw [if_pos b] at hf
   injection hf with h1 h2
   left
   refine ⟨h1.symm,?_⟩
   unfold zae
   have hs:spb (byt seg)=(byt seg).length:=by unfold spb;rw [hr,h2,List.take_length]
   rw [hnx,a,hs,hr,decide_eq_true b];simp
  ·rw [if_neg b] at hf
   injection hf with h1 _
   exact absurd h1.symm hk
 ·rw [if_neg a] at hf
  by_cases d:dgt v.1=true
  ·rw [if_pos d] at hf
   by_cases b:zgz (seg.take (spn seg))=true
   ·rw [if_pos b] at hf
    injection hf with h1 h2
    right;left
    refine ⟨h1.symm,?_⟩
    rw [h2,List.take_length] at b
    rw [zeZ (l:=byt seg) seg (fun v hv=>by rw [hr];exact hv)]
    exact b
   ·rw [if_neg b] at hf
    injection hf with h1 _
    exact absurd h1.symm hk
  ·rw [if_neg d] at hf
   by_cases b:sgn seg=0
   ·rw [if_pos b] at hf
    injection hf with h1 _
    exact absurd h1.symm hk
   ·rw [if_neg b] at hf
    injection hf with h1 _
    right;right
    exact ⟨h1.symm,v,t,e,by simpa using a,by simpa using d⟩
def tkW (x:Wd):Tk:=(x.1,byt x.2.1)
theorem OneW.good {K:Nat}{seg:List Ru}(h:OneW K seg):ziS (K,byt seg):=by
 rcases h.kind with ⟨rfl,h1⟩|⟨rfl,h1⟩|⟨rfl,_⟩
 ·obtain ⟨a,b,c,d⟩:=zkv h1
  exact ⟨.inl rfl,fun _=>⟨a,b,c,d,fun e=>by simp only at e;rw [e] at h1;revert h1;decide⟩⟩
 ·obtain ⟨a,b,c,d⟩:=zls h1
  exact ⟨.inr (.inl rfl),fun _=>⟨a,b,c,d,fun e=>by simp only at e;rw [e] at h1;revert h1;decide⟩⟩
 ·exact ⟨.inr (.inr rfl),fun h=>absurd rfl h⟩
theorem zkF {l:List Wd}(h:∀ w∈l,OneW w.1 w.2.1):∀ w∈l.map tkW,ziS w:=fun w hw=>by
 obtain ⟨x,hx,rfl⟩:=List.mem_map.1 hw
 exact (h x hx).good
def zgr (Q:Nat->Nat->Sx->Prop) (n:Nat) (r:Rd3):Prop:=(r.2.2 = -1/\Q n r.2.1 r.1)∨0<=r.2.2
section
variable {nb:List UInt8->Int}{rsv:List UInt8->Bool}{l:List Tk}{Q:Nat->Nat->Sx->Prop}
theorem zil {next:Nat->Int->Rd3}{k n:Nat}{x:Sx}{b:Int}(h:0<=b):∀ G,lop l next k G (x,n,b)=(x,n,b)
 | 0=>rfl
 | G+1=>by
  unfold lop
  cases l[n]? with
  | none=>rfl
  | some w=>simp only;rw [if_neg (fun q=>by have:=q.1;omega)]
theorem zh1 {next:Nat->Int->Rd3}{k n0:Nat}(hk:1<=k) (h2:∀ n m n' w x y,l[m]?=some w->lv w.2≠0->Q n m x->Q (m+1) n' y->Q n n' (mk2 ⟨w.2.toArray⟩ x y)) (hN:∀ n,zgr Q n (next n (-1))):∀ (G n:Nat) (x:Sx),Q n0 n x->zgr Q n0 (lop l next k G (x,n,-1))
 | 0,n,x,hx=>.inl ⟨rfl,hx⟩
 | G+1,n,x,hx=>by
  unfold lop
  cases hw:l[n]? with
  | none=>exact .inl ⟨rfl,hx⟩
  | some w=>
   simp only
   by_cases hc:(-1:Int) < 0/\lv w.2=k
   ·rw [if_pos hc]
    have hne:lv w.2≠0:=by have:=hc.2;omega
    obtain ⟨r,hr⟩:∃ r,next (n+1) (-1)=r:=⟨_,rfl⟩
    have hb:=hN (n+1)
    rw [hr] at hb ⊢
    obtain ⟨y,n',b'⟩:=r
    rcases hb with ⟨e1,e2⟩|e1
    ·simp only at e1 e2
     subst e1
     have hp:=h2 n0 n n' w x y hw hne hx e2
     by_cases h3:k=3
     ·rw [if_pos h3];exact .inl ⟨rfl,hp⟩
     ·rw [if_neg h3];exact zh1 hk h2 hN G n' _ hp
    ·simp only at e1
     by_cases h3:k=3
     ·rw [if_pos h3];exact .inr e1
     ·rw [if_neg h3,zil e1];exact .inr e1
   ·rw [if_neg hc];exact .inl ⟨rfl,hx⟩
theorem zda (h0:∀ n w x,l[n]?=some w->zL nb rsv w=some x->Q n (n+1) x) (h1:∀ n n' k x,k=3∨k=4->Q (n+1) n' x->Q n n' (mk1 k x)) (h2:∀ n m n' w x y,l[m]?=some w->lv w.2≠0->Q n m x->Q (m+1) n' y->Q n n' (mk2 ⟨w.2.toArray⟩ x y))
  (h3:∀ n n' x,Q (n+1) n' x->Q n (n'+1) x):∀ (f k n:Nat),1<=k->k<=6->zgr Q n (psr nb rsv l f k n (-1))
 | 0,k,n,_,_=>.inr (by show (0:Int)<=if (-1:Int) < 0 then (n:Int) else -1;rw [if_pos (by decide)];omega)
 | f+1,k,n,hk,hk6=>by
  by_cases h6:k=6
  ·subst h6
   cases hw:l[n]? with
   | none=>rw [zgK hw];exact .inr (by show (0:Int)<=(n:Int);omega)
   | some w=>
    by_cases hu:w.2=[33]∨w.2=[45]
    ·rw [zh9 hw hu]
     rcases zda h0 h1 h2 h3 f 6 (n+1) (by omega) (by omega) with ⟨e1,e2⟩|e1
     ·exact .inl ⟨e1,h1 _ _ _ _ (by split<;>simp) e2⟩
     ·exact .inr e1
    ·by_cases h40:w.2=[40]
     ·rw [zgf hw h40]
      rcases zda h0 h1 h2 h3 f 1 (n+1) (by omega) (by omega) with ⟨e1,e2⟩|e1
      ·split
       ·exact .inl ⟨e1,h3 _ _ _ e2⟩
       ·refine .inr ?_
        show (0:Int)<=if _ < (0:Int) then _ else _
        rw [e1,if_pos (by decide)];omega
      ·rw [if_neg (by unfold isT;simp only [Bool.and_eq_true,decide_eq_true_eq];omega)]
       refine .inr ?_
       show (0:Int)<=if _ < (0:Int) then _ else _
       rw [if_neg (by omega)];exact e1
     ·rw [zeY hw hu h40]
      cases hlf:zL nb rsv w with
      | some x=>exact .inl ⟨rfl,h0 n w x hw hlf⟩
      | none=>exact .inr (by show (0:Int)<=(n:Int);omega)
  ·rw [psr,if_neg h6]
   obtain ⟨r,hr⟩:∃ r,psr nb rsv l f (k+1) n (-1)=r:=⟨_,rfl⟩
   have hb:=zda h0 h1 h2 h3 f (k+1) n (by omega) (by omega)
   rw [hr] at hb ⊢
   obtain ⟨y,n',b'⟩:=r
   rcases hb with ⟨e1,e2⟩|e1
   ·simp only at e1 e2
    subst e1
    exact zh1 hk h2 (fun m=>zda h0 h1 h2 h3 f (k+1) m (by omega) (by omega)) _ _ _ e2
   ·simp only at e1
    rw [zil e1];exact .inr e1
end
def zb5 (x:Sx):Nat:=cnt x.1 x.2
theorem zkd (s:ByteArray) (x y:Sx):zb5 (mk2 s x y)=zb5 x+(zb5 y+0)+1:=zb2 (fun (_ _:Int) (_:ByteArray) (l:List Nat)=>l.sum+1) s x y
structure zkP (x:Sx):Prop where
 cl:ClX x
 sd:sdC x.1 x.2=true
 pl:plC x.1 x.2=true
 sh:zb6 1000 x.1 x.2=true
theorem zky {s:List UInt8}(h:lv s≠0):opr ⟨s.toArray⟩=true/\s.length<=2:=by
 have:=zhA h
 rcases this with rfl|rfl|rfl|rfl|rfl|rfl|rfl|rfl|rfl<;>exact ⟨by decide,by decide⟩
theorem nx4 {l:List UInt8}(h:l≠[]):(nx l).2<=4:=by
 rw [zd6 h,decodeL_N]
 generalize (l.getD 0 0).toNat=b0
 generalize (l.getD 1 0).toNat=b1
 generalize (l.getD 2 0).toNat=b2
 generalize (l.getD 3 0).toNat=b3
 generalize l.length=n
 unfold decodeN
 repeat' split
 all_goals simp
theorem zmC:∀ (n:Nat) (l:List UInt8),l.length<=n->∀ v∈runes l,v.2.length<=4
 | 0,l,h,v,hv=>by
  have:l=[]:=List.eq_nil_of_length_eq_zero (by omega)
  subst this;cases hv
 | n+1,l,h,v,hv=>by
  by_cases hl:l=[]
  ·subst hl;rw [zbt] at hv;cases hv
  ·have h1:=zaC hl
   have h4:=nx4 hl
   rw [zq hl] at hv
   rcases List.mem_cons.1 hv with rfl|hv
   ·rw [List.length_take];omega
   ·exact zmC n _ (by rw [List.length_drop];omega) v hv
theorem znP:∀ (vs:List Ru),(∀ v∈vs,v.2.length<=4)->(byt vs).length<=4*vs.length
 | [],_=>by simp [byt]
 | v :: r,h=>by
  have h1:=h v (by simp)
  have h2:=znP r (fun x hx=>h x (by simp [hx]))
  rw [zaQ,List.length_append,List.length_cons];omega
theorem zk6 {b:List UInt8}(h:zae b=true):b.length<=96:=by
 unfold zae at h
 simp only [Bool.and_eq_true,decide_eq_true_eq,beq_iff_eq] at h
 have h1:spb b<=4*((runes b).take (spn (runes b))).length:=znP _ (fun v hv=>zmC _ b zn2 v (List.mem_of_mem_take hv))
 rw [List.length_take] at h1
 omega
theorem zdw {b:List UInt8}(h:zai b=true):b.length<=10/\0<=zz 0 b/\zz 0 b<=1000000000:=by
 unfold zai at h
 simp only [Bool.and_eq_true,decide_eq_true_eq] at h
 have hv:∀ (b:List UInt8) (n:Int),0<=n->b.all dB=true->0<=zz n b:=fun b=>by
  induction b with
  | nil=>intro n hn _;exact hn
  | cons c r ih=>
   intro n hn hb
   simp only [List.all_cons,Bool.and_eq_true] at hb
   have hd:48<=c.toNat/\c.toNat<=57:=of_decide_eq_true hb.1
   exact ih _ (by omega) hb.2
 refine ⟨?_,?_,?_⟩
 all_goals first|omega|exact hv b 0 (by omega) (by simp_all)|simp_all
theorem zjh {l:List Wd}(h:∀ w∈l,OneW w.1 w.2.1) (f k n:Nat) (hk:1<=k) (hk6:k<=6):zgr (fun n n' x=>zkP x/\n+zb5 x<=n') n (psr (zz 0) zX (l.map tkW) f k n (-1)):=by
 refine zda (fun n w x hw0 hx=>⟨?_,?_⟩) (fun n n' k x hk hq=>⟨?_,?_⟩) (fun n m n' w x y hw0 hne hq hq'=>⟨?_,?_⟩) (fun n n' x hq=>⟨hq.1,by have:=hq.2;omega⟩) f k n hk hk6
 ·have hw:=List.mem_of_getElem? hw0
  obtain ⟨u,hu,rfl⟩:=List.mem_map.1 hw
  unfold zL tkW at hx
  simp only at hx
  by_cases h2:u.1=2
  ·rw [if_pos h2] at hx
   obtain rfl:=Option.some.inj hx
   have hn:zai (byt u.2.1)=true:=by
    rcases (h u hu).kind with ⟨a,_⟩|⟨_,b⟩|⟨a,_⟩
    ·omega
    ·exact b
    ·omega
   obtain ⟨_,a,b⟩:=zdw hn
   refine ⟨.inl ⟨rfl,rfl,rfl⟩,?_,rfl,by rfl⟩
   show (decide (0<=zz 0 (byt u.2.1)) && decide (zz 0 (byt u.2.1)<=1000000000))=true
   rw [decide_eq_true a,decide_eq_true b];rfl
  ·rw [if_neg h2] at hx
   by_cases h1:u.1=1/\zX (byt u.2.1)=false
   ·rw [if_pos h1] at hx
    obtain rfl:=Option.some.inj hx
    have hn:zae (byt u.2.1)=true:=by
     rcases (h u hu).kind with ⟨_,b⟩|⟨a,_⟩|⟨a,_⟩
     ·exact b
     ·omega
     ·omega
    have hl:=zk6 hn
    refine ⟨.inr (.inl ⟨rfl,rfl,rfl⟩),?_,?_,?_⟩
    ·show zae (bl ⟨(byt u.2.1).toArray⟩)=true
     exact hn
    ·show (!(decide ((2:Int)=2) && zX (byt u.2.1)) && [].all id)=true
     rw [h1.2];rfl
    ·show (decide ((byt u.2.1).toArray.size<=1000) && [].all id)=true
     rw [decide_eq_true (by simp;omega)];rfl
   ·rw [if_neg h1] at hx;cases hx
 ·unfold zL at hx
  have:zb5 x=1:=by
   split at hx
   ·obtain rfl:=Option.some.inj hx;rfl
   ·split at hx
    ·obtain rfl:=Option.some.inj hx;rfl
    ·cases hx
  omega
 ·have hx:=hq.1
  refine ⟨zm3 hk hx.cl,?_,?_,?_⟩
  ·have:sdC (mk1 k x).1 (mk1 k x).2=true:=by
    show sdC (x.1+1) (mkT k 0 ⟨#[]⟩ [x.2])=true
    rw [zjU,if_neg (by omega),if_neg (by omega),if_pos hk]
    simp [hx.sd]
   exact this
  ·show plC (x.1+1) (mkT k 0 ⟨#[]⟩ [x.2])=true
   rw [zm4,decide_eq_false (by omega:¬ k=2)]
   simp [hx.pl]
  ·show zb6 1000 (x.1+1) (mkT k 0 ⟨#[]⟩ [x.2])=true
   rw [zaH,zg3]
   simp [hx.sh]
 ·have e:zb5 (mk1 k x)=zb5 x+0+1:=rfl
  have:=hq.2
  omega
 ·have hx:=hq.1
  have hy:=hq'.1
  obtain ⟨ho,hl2⟩:=zky hne
  refine ⟨znk hx.cl hy.cl,?_,?_,?_⟩
  ·have:=zb2 (fun (k n:Int) (s:ByteArray) (l:List Bool)=>if k=1 then decide (0<=n) && decide (n<=1000000000) else if k=2 then zae (bl s) else if k=3∨k=4 then l.all id else if k=5 then opr s && l.all id else false) ⟨w.2.toArray⟩ x y
   refine Eq.trans this ?_
   rw [if_neg (by decide),if_neg (by decide),if_neg (by decide),if_pos rfl,ho]
   show (true && (sdC x.1 x.2 && (sdC y.1 y.2 && true)))=true
   rw [hx.sd,hy.sd];rfl
  ·have:=zb2 (fun (k _:Int) (s:ByteArray) (l:List Bool)=>!(decide (k=2) && zX s.data.toList) && l.all id) ⟨w.2.toArray⟩ x y
   refine Eq.trans this ?_
   show (!(false && _) && (plC x.1 x.2 && (plC y.1 y.2 && true)))=true
   rw [hx.pl,hy.pl];rfl
  ·have:=zb2 (fun (_ _:Int) (s:ByteArray) (l:List Bool)=>decide (s.size<=1000) && l.all id) ⟨w.2.toArray⟩ x y
   refine Eq.trans this ?_
   show (decide ((w.2.toArray).size<=1000) && (zb6 1000 x.1 x.2 && (zb6 1000 y.1 y.2 && true)))=true
   rw [hx.sh,hy.sh,decide_eq_true (by simp;omega)];rfl
 ·have h1:=hq.2
  have h2:=hq'.2
  rw [zkd]
  omega
abbrev Fx (X:Nat) (w w':World):Prop:=w.grownBy w' (some X)
theorem Fx.refl (X:Nat) (w:World):Fx X w w:=⟨rfl,rfl,rfl,Nat.le_refl _,fun _ _ _=>rfl⟩
theorem Fx.trans {X:Nat}{a b c:World}(h:Fx X a b) (k:Fx X b c):Fx X a c:=
 ⟨k.os.trans h.os,k.tape.trans h.tape,k.output.trans h.output,zn5 h.size k.size,fun j hj hne=>(k.block j (zn4 hj h.size) hne).trans (h.block j hj hne)⟩
theorem Fx.of {X B:Nat}{a b:World}(h:Below B a b) (hB:a.heap.size<=B):Fx X a b:=⟨h.os,h.tape,h.output,h.size,fun k hk _=>h.block k (by omega)⟩
theorem Fx.setX {X i:Nat}{a b:World}(h:Fx X a b) (u:Value):Fx X a (b.setCell ⟨X,i,none⟩ u):=
 ⟨h.os,h.tape,h.output,by simpa using h.size,fun k hk hne=>(Below.heap_setCell _ _ _ _ (fun e=>hne (congrArg some e))).trans (h.block k hk hne)⟩
theorem Fx.drewN {X:Nat}{a b:World}(h:Fx X a b) (m:Nat):Fx X a (b.drewN m):=⟨h.os,h.tape,h.output,h.size,h.block⟩
theorem Fx.drew {X:Nat}{a b:World}(h:Fx X a b):Fx X a b.drew:=⟨h.os,h.tape,h.output,h.size,h.block⟩
theorem Fx.alloc {X:Nat}{a b:World}(h:Fx X a b) (o:Obj):Fx X a (b.alloc o):=h.trans (Fx.of ((Below.refl b.heap.size b).alloc zn2 o) zn2)
theorem Fx.setN {X N i:Nat}{a b:World}(h:Fx X a b) (hN:a.heap.size<=N) (u:Value):Fx X a (b.setCell ⟨N,i,none⟩ u):=
 ⟨h.os,h.tape,h.output,by simpa using h.size,fun k hk hne=>(Below.heap_setCell _ _ _ _ (fun e=>by have:k=N:=e;omega)).trans (h.block k hk hne)⟩
def RdL (w:World) (X:Nat) (a:Option Addr) (ws:List Wd):Prop:=∀ (i:Nat) (hi:i < ws.length),∃ g off,a=some ⟨g,off,none⟩/\g < X/\w.cell? ⟨g,off+i*4,none⟩=some (.int .i64 ((ws[i]).1:Int))/\w.cell? ⟨g,off+i*4+1,none⟩=some (.string (txt (ws[i]).2.1))/\w.cell? ⟨g,off+i*4+2,none⟩=some (.int .i64 (ws[i]).2.2.1)/\w.cell? ⟨g,off+i*4+3,none⟩=some (.int .i64 (ws[i]).2.2.2)
theorem RdL.fx {w w':World}{X:Nat}{a:Option Addr}{ws:List Wd}(h:RdL w X a ws) (hX:X < w.heap.size) (hf:Fx X w w'):RdL w' X a ws:=fun i hi=>by
 obtain ⟨g,off,h1,h3,c0,c1,c2,c3⟩:=h i hi
 have hb:w'.heap[g]?=w.heap[g]?:=hf.block g (by omega) (fun e=>by have:g=X:=Option.some.inj e;omega)
 have hc:∀ j,w'.cell? ⟨g,j,none⟩=w.cell? ⟨g,j,none⟩:=fun j=>World.cell?_of_block (w:=w) (a:=⟨g,j,none⟩) hb
 exact ⟨g,off,h1,h3,(hc _).trans c0,(hc _).trans c1,(hc _).trans c2,(hc _).trans c3⟩
structure Rr (w:World) (X:Nat) (a:Option Addr) (cap:Nat) (ws:List Wd) (n:Nat) (b:Int):Prop where
 c0:w.cell? ⟨X,0,none⟩=some (.slice a ws.length cap)
 c1:w.cell? ⟨X,1,none⟩=some (.int .i64 (n:Int))
 c2:w.cell? ⟨X,2,none⟩=some (.int .i64 b)
 f1:w.frozen? ⟨X,1,none⟩=false
 f2:w.frozen? ⟨X,2,none⟩=false
 l:RdL w X a ws
theorem Rr.lt {w:World}{X:Nat}{a:Option Addr}{cap:Nat}{ws:List Wd}{n:Nat}{b:Int}(h:Rr w X a cap ws n b):X < w.heap.size:=World.block_lt_of_cell? w _ h.c0
theorem Rr.on {w w':World}{X:Nat}{a:Option Addr}{cap:Nat}{ws:List Wd}{n:Nat}{b:Int}(h:Rr w X a cap ws n b) (hb:Below w.heap.size w w'):Rr w' X a cap ws n b:=by
 have hX:=h.lt
 have hc:∀ i,w'.cell? ⟨X,i,none⟩=w.cell? ⟨X,i,none⟩:=fun i=>hb.cell (p:=⟨X,i,none⟩) hX
 have hf:∀ i,w'.frozen? ⟨X,i,none⟩=w.frozen? ⟨X,i,none⟩:=fun i=>hb.frozen (p:=⟨X,i,none⟩) hX
 exact ⟨(hc 0).trans h.c0,(hc 1).trans h.c1,(hc 2).trans h.c2,(hf 1).trans h.f1,(hf 2).trans h.f2,h.l.fx hX (Fx.of hb zn2)⟩
theorem Rr.set1 {w:World}{X:Nat}{a:Option Addr}{cap:Nat}{ws:List Wd}{n:Nat}{b:Int}(h:Rr w X a cap ws n b) (n':Nat):Rr (w.setCell ⟨X,1,none⟩ (.int .i64 (n':Int))) X a cap ws n' b:=
 ⟨za (by omega) h.c0,zas h.c1,za (by omega) h.c2,(World.frozen?_setCell _ _ _ _).trans h.f1,(World.frozen?_setCell _ _ _ _).trans h.f2,h.l.fx h.lt ((Fx.refl X w).setX _)⟩
theorem Rr.set2 {w:World}{X:Nat}{a:Option Addr}{cap:Nat}{ws:List Wd}{n:Nat}{b:Int}(h:Rr w X a cap ws n b) (b':Int):Rr (w.setCell ⟨X,2,none⟩ (.int .i64 b')) X a cap ws n b':=
 ⟨za (by omega) h.c0,za (by omega) h.c1,zas h.c2,(World.frozen?_setCell _ _ _ _).trans h.f1,(World.frozen?_setCell _ _ _ _).trans h.f2,h.l.fx h.lt ((Fx.refl X w).setX _)⟩
theorem zbk (w:World) (m:Nat):Below w.heap.size w (w.drewN m):=⟨rfl,rfl,rfl,Nat.le_refl _,fun _ _=>rfl⟩
structure Wk (ws:List Wd) (cap:Nat):Prop where
 l:ws.length<=3000
 c:ws.length<=cap
 m:cap<=maxLen
 o:∀ x∈ws,OneW x.1 x.2.1
theorem Rr.far {w:World}{X N i:Nat}{a:Option Addr}{cap:Nat}{ws:List Wd}{n:Nat}{b:Int}(h:Rr w X a cap ws n b) (hN:X < N) (u:Value):Rr (w.setCell ⟨N,i,none⟩ u) X a cap ws n b:=by
 refine ⟨za (by omega) h.c0,za (by omega) h.c1,za (by omega) h.c2,(World.frozen?_setCell _ _ _ _).trans h.f1,(World.frozen?_setCell _ _ _ _).trans h.f2,fun j hj=>?_⟩
 obtain ⟨g,off,h1,h3,d0,d1,d2,d3⟩:=h.l j hj
 exact ⟨g,off,h1,h3,za (by omega) d0,za (by omega) d1,za (by omega) d2,za (by omega) d3⟩
def Bn (w:World) (Y:Nat) (cs:List Value):Prop:=∀ j u,cs[j]?=some u->w.cell? ⟨Y,j,none⟩=some u/\w.frozen? ⟨Y,j,none⟩=false
theorem Bn.lt {w:World}{Y:Nat}{c:Value}{cs:List Value}(h:Bn w Y (c :: cs)):Y < w.heap.size:=World.block_lt_of_cell? w _ (h 0 c rfl).1
theorem zaw {w w':World}{Y j:Nat}(h:w'.heap[Y]?=w.heap[Y]?):w'.frozen? ⟨Y,j,none⟩=w.frozen? ⟨Y,j,none⟩:=by
 unfold World.frozen?
 rw [h]
theorem Bn.blk {w w':World}{Y:Nat}{cs:List Value}(h:Bn w Y cs) (hb:w'.heap[Y]?=w.heap[Y]?):Bn w' Y cs:=fun j u hu=>
 ⟨zF (p:=⟨Y,j,none⟩) hb (h j u hu).1,(zaw hb).trans (h j u hu).2⟩
theorem Bn.on {w w':World}{Y:Nat}{c:Value}{cs:List Value}(h:Bn w Y (c :: cs)) (hb:Below w.heap.size w w'):Bn w' Y (c :: cs):=h.blk (hb.block Y h.lt)
theorem Bn.fx {w w':World}{X Y:Nat}{c:Value}{cs:List Value}(h:Bn w Y (c :: cs)) (hf:Fx X w w') (hne:Y≠X):Bn w' Y (c :: cs):=h.blk (hf.block Y h.lt (fun e=>hne (Option.some.inj e)))
theorem Bn.far {w:World}{Y X i:Nat}{cs:List Value}(h:Bn w Y cs) (hne:X≠Y) (v:Value):Bn (w.setCell ⟨X,i,none⟩ v) Y cs:=h.blk (Below.heap_setCell _ _ _ _ (fun e=>hne e.symm))
theorem Bn.set {w:World}{Y i:Nat}{cs:List Value}(h:Bn w Y cs) (hi:i < cs.length) (v:Value):Bn (w.setCell ⟨Y,i,none⟩ v) Y (cs.set i v):=fun j u hu=>by
 refine ⟨?_,(World.frozen?_setCell _ _ _ _).trans ?_⟩
 ·by_cases hj:i=j
  ·subst hj
   rw [List.getElem?_set_self hi] at hu
   obtain rfl:=Option.some.inj hu
   exact zas (h i _ (List.getElem?_eq_getElem hi)).1
  ·rw [List.getElem?_set_ne hj] at hu
   exact za (by omega) (h j u hu).1
 ·have hl:j < cs.length:=by
   have:=(List.getElem?_eq_some_iff.1 hu).1
   rwa [List.length_set] at this
  exact (h j _ (List.getElem?_eq_getElem hl)).2
theorem Bn.drew {w:World}{Y:Nat}{cs:List Value}(h:Bn w Y cs):Bn w.drew Y cs:=h
theorem Bn.new (w:World) (cs:List Value) (t:TypeId) (n:Nat) (hn:n=w.heap.size):Bn (w.alloc (.cells cs.toArray t)) n cs:=by
 subst hn
 intro j u hu
 refine ⟨?_,by simp⟩
 rw [World.cell?_alloc_new]
 simpa using hu
def RdK {α:Type}(ok:Nat->Prop) (w:World) (k:Nat) (R:α->List Value->Prop) (l:List α) (v:Value):Prop:=
 ∃ a cap,v=.slice a l.length cap/\l.length<=cap/\cap<=maxLen/\
  ∀ (i:Nat) (hi:i < l.length),∃ b off cs,a=some ⟨b,off,none⟩/\ok b/\b < w.heap.size/\cs.length=k/\R l[i] cs/\∀ j u,cs[j]?=some u->w.cell? ⟨b,off+i*k+j,none⟩=some u
theorem zaO {α:Type}(ok:Nat->Prop) (w:World) (k:Nat) (R:α->List Value->Prop):RdK ok w k R [] (.slice none 0 0):=⟨none,0,rfl,by simp,by simp [maxLen],fun i hi=>absurd hi (by simp)⟩
theorem RdK.keep {α:Type}{ok ok':Nat->Prop}{w w':World}{k:Nat}{R R':α->List Value->Prop}{l:List α}{v:Value}(h:RdK ok w k R l v) (hR:∀ x∈l,∀ u,R x u->R' x u) (hk:∀ b,ok b->b < w.heap.size->ok' b/\w'.heap[b]?=w.heap[b]?):RdK ok' w' k R' l v:=by
 obtain ⟨a,cap,rfl,hc,hm,hcell⟩:=h
 refine ⟨a,cap,rfl,hc,hm,fun i hi=>?_⟩
 obtain ⟨b,off,cs,ha,ho,hb,hl,hr,hcs⟩:=hcell i hi
 obtain ⟨ho',hs⟩:=hk _ ho hb
 refine ⟨b,off,cs,ha,ho',?_,hl,hR _ (List.getElem_mem hi) _ hr,fun j u hu=>zF (p:=⟨b,off+i*k+j,none⟩) hs (hcs j u hu)⟩
 rcases Nat.lt_or_ge b w'.heap.size with h|h
 ·exact h
 ·rw [Array.getElem?_eq_none h,Array.getElem?_eq_getElem hb] at hs
  cases hs
theorem RdK.form {α:Type}{ok:Nat->Prop}{w:World}{k:Nat}{R:α->List Value->Prop}{l:List α}{v:Value}(h:RdK ok w k R l v):∃ a cap,v=.slice a l.length cap/\l.length<=cap/\cap<=maxLen:=by
 obtain ⟨a,cap,h1,h2,h3,_⟩:=h
 exact ⟨a,cap,h1,h2,h3⟩
def Kp {α:Type}(R:(Nat->Prop)->World->α->List Value->Prop):Prop:=∀ ⦃ok ok':Nat->Prop⦄ ⦃w w':World⦄ ⦃x:α⦄ ⦃cs:List Value⦄,R ok w x cs->(∀ b,ok b->b < w.heap.size->ok' b/\w'.heap[b]?=w.heap[b]?)->R ok' w' x cs
def OwnK {α:Type}(w:World) (base e k:Nat) (R:(Nat->Prop)->World->α->List Value->Prop) (v:Value) (l:List α):Prop:=
 ∃ qs:List (List Value),w.ownsRow base e k v l.length qs.flatten/\qs.length=l.length/\∀ (i:Nat) (h:i < l.length) (h':i < qs.length),(qs[i]).length=k/\R (fun b=>base<=b/\v.ownBlock≠some b) w l[i] qs[i]
theorem zeh {α:Type}(w:World) (base e k:Nat) (R:(Nat->Prop)->World->α->List Value->Prop):OwnK w base e k R (.slice none 0 0) []:=⟨[],World.ownsRow_nil w base e k,rfl,fun i h=>absurd h (by simp)⟩
theorem OwnK.keep {α:Type}{w w':World}{base e k:Nat}{R:(Nat->Prop)->World->α->List Value->Prop}{v:Value}{l:List α}(hR:Kp R) (h:OwnK w base e k R v l) (hk:∀ b,base<=b->b < w.heap.size->w'.heap[b]?=w.heap[b]?):OwnK w' base e k R v l:=by
 obtain ⟨qs,ho,hl,hr⟩:=h
 refine ⟨qs,zaG ho (fun g hg=>?_),hl,fun i h h'=>⟨(hr i h h').1,hR (hr i h h').2 (fun b hb hlt=>⟨hb,hk b hb.1 hlt⟩)⟩⟩
 obtain ⟨a,b⟩:=zC ho g hg
 exact hk g a b
theorem OwnK.on {α:Type}{w w':World}{base e k:Nat}{R:(Nat->Prop)->World->α->List Value->Prop}{v:Value}{l:List α}(hR:Kp R) (h:OwnK w base e k R v l) (hb:Below w.heap.size w w'):OwnK w' base e k R v l:=h.keep hR (fun b _ hlt=>hb.block b hlt)
theorem OwnK.fx {α:Type}{w w':World}{base e k X:Nat}{R:(Nat->Prop)->World->α->List Value->Prop}{v:Value}{l:List α}(hR:Kp R) (h:OwnK w base e k R v l) (hf:Fx X w w') (hX:X < base):OwnK w' base e k R v l:=
 h.keep hR (fun b hb hlt=>hf.block b hlt (fun e=>by have:b=X:=Option.some.inj e;omega))
theorem OwnK.set {α:Type}{w:World}{base e k:Nat}{R:(Nat->Prop)->World->α->List Value->Prop}{v:Value}{l:List α}(hR:Kp R) (h:OwnK w base e k R v l) {X i:Nat}(hX:X < base) (u:Value):OwnK (w.setCell ⟨X,i,none⟩ u) base e k R v l:=
 h.keep hR (fun b hb _=>Below.heap_setCell _ _ _ _ (fun e=>by have:b=X:=e;omega))
theorem OwnK.form {α:Type}{w:World}{base e k:Nat}{R:(Nat->Prop)->World->α->List Value->Prop}{v:Value}{l:List α}(h:OwnK w base e k R v l):∃ a cap,v=.slice a l.length cap/\l.length<=cap/\cap<=maxLen:=by
 obtain ⟨qs,ho,_⟩:=h
 rcases ho.2 with ⟨h1,h2⟩|⟨g,cap,cur,h1,_,_,h3,h4,_⟩
 ·exact ⟨none,0,by rw [h1,h2],by omega,by simp [maxLen]⟩
 ·exact ⟨_,_,h1,h3,h4⟩
theorem OwnK.snoc {α:Type}{w w':World}{base e k lo n:Nat}{R:(Nat->Prop)->World->α->List Value->Prop}{v v':Value}{l:List α}{p:α}{cs:List Value}{qs:List (List Value)}(hR:Kp R) (hk:cs.length=k)
  (hn:l.length=n) (ho:w.ownsRow base e k v n qs.flatten) (hl:qs.length=l.length) (hr:∀ (i:Nat) (h:i < l.length) (h':i < qs.length),(qs[i]).length=k/\R (fun b=>base<=b/\v.ownBlock≠some b) w l[i] qs[i])
  (ho':w'.ownsRow base e k v' (n+1) (qs.flatten++cs)) (hg:w.grownBy w' v.ownBlock) (hat:v'.ownBlock=v.ownBlock∨v'.ownBlock=some w.heap.size)
  (hp:R (fun b=>lo<=b) w p cs) (hlo:base<=lo) (hv:∀ x,v.ownBlock=some x->x < lo):OwnK w' base e k R v' (l++[p]):=by
 subst hn
 have key:∀ b,base<=b/\v.ownBlock≠some b->b < w.heap.size->(base<=b/\v'.ownBlock≠some b)/\w'.heap[b]?=w.heap[b]?:=fun b hb hlt=>by
  refine ⟨⟨hb.1,fun e=>?_⟩,hg.block b hlt (fun e=>hb.2 e.symm)⟩
  rcases hat with h|h
  ·exact hb.2 (h ▸ e)
  ·rw [h] at e;have:w.heap.size=b:=Option.some.inj e;omega
 refine ⟨qs++[cs],?_,by simp [hl],fun i h h'=>?_⟩
 ·rw [List.flatten_append,List.length_append]
  simpa using ho'
 ·rcases Nat.lt_or_ge i l.length with hi|hi
  ·rw [List.getElem_append_left hi,List.getElem_append_left (by omega)]
   exact ⟨(hr i hi (by omega)).1,hR (hr i hi (by omega)).2 key⟩
  ·have:i=l.length:=by simp at h;omega
   subst this
   have e1:(l++[p])[l.length]=p:=by simp
   have e2:(qs++[cs])[l.length]'h'=cs:=by simp [<- hl]
   rw [e1,e2]
   exact ⟨hk,hR hp (fun b hb hlt=>key b ⟨by omega,fun e=>by have:=hv b e;omega⟩ hlt)⟩
theorem ziF {k:Nat}:∀ (qs:List (List Value)) (i j:Nat) (h:i < qs.length) (u:Value),(∀ (i:Nat) (h:i < qs.length),(qs[i]).length=k)->(qs[i])[j]?=some u->qs.flatten[i*k+j]?=some u
 | [],i,j,h,u,_,_=>by simp at h
 | x :: t,0,j,h,u,hk,hu=>by
  have hu':x[j]?=some u:=hu
  have hj:=(List.getElem?_eq_some_iff.1 hu').1
  rw [List.flatten_cons,Nat.zero_mul,Nat.zero_add,List.getElem?_append_left hj]
  exact hu'
 | x :: t,i+1,j,h,u,hk,hu=>by
  have hx:x.length=k:=hk 0 (by simp)
  have e:(i+1)*k+j=x.length+(i*k+j):=by rw [hx,Nat.succ_mul];omega
  rw [List.flatten_cons,e,List.getElem?_append_right (by omega),Nat.add_sub_cancel_left]
  exact ziF t i j (by simpa using h) u (fun i h=>hk (i+1) (by simpa using h)) hu
theorem OwnK.rd {α:Type}{w:World}{base e k:Nat}{R:(Nat->Prop)->World->α->List Value->Prop}{v:Value}{l:List α}(hR:Kp R) (h:OwnK w base e k R v l):RdK (fun b=>base<=b) w k (R (fun b=>base<=b) w) l v:=by
 obtain ⟨qs,ho,hl,hr⟩:=h
 have hc:=fun g=>World.ownsRow.cells ho (g:=g)
 rcases ho.2 with ⟨rfl,hn⟩|⟨g,cap,cur,rfl,hb,hg,hnc,hcm,hcs,htake⟩
 ·have hx:l=[]:=List.eq_nil_of_length_eq_zero hn
  subst hx
  exact zaO _ w k _
 ·refine ⟨some ⟨g,0,none⟩,cap,rfl,hnc,hcm,fun i hi=>⟨g,0,qs[i],rfl,hb,(Array.getElem?_eq_some_iff.1 hg).1,(hr i hi (by omega)).1,hR (hr i hi (by omega)).2 (fun b hb _=>⟨hb.1,rfl⟩),fun j u hu=>?_⟩⟩
  have:=hc g rfl (i*k+j) u (ziF qs i j (by omega) u (fun i h=>(hr i (by omega) h).1) hu)
  rw [zbb] at this
  rw [Nat.zero_add]
  rwa [Nat.zero_add] at this
theorem RdK.low {α:Type}{w:World}{base lo k:Nat}{R:(Nat->Prop)->World->α->List Value->Prop}{v:Value}{l:List α}(hR:Kp R) (h:RdK (fun b=>base<=b) w k (R (fun b=>base<=b) w) l v) (hlo:lo<=base):RdK (fun b=>lo<=b) w k (R (fun b=>lo<=b) w) l v:=
 h.keep (fun x _ u hu=>hR hu (fun b hb _=>⟨by omega,rfl⟩)) (fun b hb _=>⟨by omega,rfl⟩)
theorem RdK.stay {α:Type}{ok ok':Nat->Prop}{w w':World}{k:Nat}{R:(Nat->Prop)->World->α->List Value->Prop}{v:Value}{l:List α}(hR:Kp R) (h:RdK ok w k (R ok w) l v) (hk:∀ b,ok b->b < w.heap.size->ok' b/\w'.heap[b]?=w.heap[b]?):RdK ok' w' k (R ok' w') l v:=
 h.keep (fun x _ u hu=>hR hu hk) hk
theorem zfb {w:World}{cs:List Value}{e:TypeId}:∀ j u,cs[j]?=some u->(w.alloc (.cells cs.toArray e)).cell? ((⟨w.heap.size,0,none⟩:Addr).add j)=some u:=fun j u hu=>by
 rw [zbb,Nat.zero_add]
 exact (Bn.new w cs e _ rfl j u hu).1
theorem zds {P:Program}{t e:TypeId}(ht:P.underlying t=some (.slice e)) (w:World) {k:Nat}(cs:List Value) (hk:cs.length=k) (h1:∀ u∈cs,u.oneCell'=true):Src P k t (.slice (some ⟨w.heap.size,0,none⟩) 1 1) 1 cs (w.alloc (.cells cs.toArray e)):=
 Src.ofSlice _ ht _ 1 1 _ (by rw [Nat.one_mul];exact hk) zfb h1
theorem zbs {α:Type}{P:Program}(w:World) {ops:Array Oper}{o:Oper}{a:Act}{K:Act->World->Prop}{Q:Exit->Act->World->Prop}{E:Prop}(hgd:o.guard=none) (s x:Operand) (t:TypeId)
  (ho:o.op=.call { callee:=.builtin .append,args:=#[s,x],argTypes:=#[t,t] })
  (base:Nat) (e:TypeId) (i:TypeInfo) (z:Value) (k bytes:Nat) (ht:P.underlying t=some (.slice e)) (hi:P.info? e=some i) (hz:i.zero=some z)
  (hsize:i.size=k) (hby:i.bytes=bytes) (hzs:z.cells.size=k) {R:(Nat->Prop)->World->α->List Value->Prop}(hR:Kp R)
  (v:Value) (l:List α) (p:α) (cs:List Value) (lo:Nat) (hs:a.eval s=v) (hx:a.eval x=.slice (some ⟨w.heap.size,0,none⟩) 1 1) (hk:cs.length=k) (h1:∀ u∈cs,u.oneCell'=true)
  (hown:OwnK w base e k R v l) (hp:R (fun b=>lo<=b) w p cs) (hlo:base<=lo) (hv:∀ x,v.ownBlock=some x->x < lo) (hroom:(l.length+1+(l.length+1) / 4+192)*bytes<=281474976710656)
  (h63:l.length+1<=maxLen) (hbase:base<=w.heap.size)
  (h:∀ v' w',OwnK w' base e k R v' (l++[p])->(w.alloc (.cells cs.toArray e)).grownBy w' v.ownBlock->Below base w w'->K (a.put o.dst v') w') :
  if Region.wanted o (yielded ops a.tmps)=true then Oper.wp P o a (w.alloc (.cells cs.toArray e)) K Q else E:=by
 have hal:Below w.heap.size w (w.alloc (.cells cs.toArray e)):=zn3.alloc zn2 _
 obtain ⟨qs,ho1,hl1,hr1⟩:=hown.on hR hal
 refine zA _ hgd s x t t ho base e i z k bytes ht hi hz hsize hby hzs v l.length qs.flatten hs ho1 _ 1 cs hx (zds ht w cs hk h1) 1 (.inr hroom) zn2 h63 (zn5 hbase hal.size) ?_
 intro v' w' hown' hg hat
 refine h v' w' (OwnK.snoc hR hk rfl ho1 hl1 hr1 hown' hg hat (hR hp (fun b hb hlt=>⟨hb,hal.block b hlt⟩)) hlo hv) hg ?_
 exact ((Below.refl base w).alloc hbase _).grown hg (zn5 hbase hal.size) (fun k hk=>(World.ownsRow.lt ho1 k hk).1)
structure Fy (X Y:Nat) (w w':World):Prop where
 os:w'.os=w.os
 tape:w'.tape=w.tape
 output:w'.output=w.output
 size:w.heap.size<=w'.heap.size
 block:∀ k,k < w.heap.size->k≠X->k≠Y->w'.heap[k]?=w.heap[k]?
theorem Fy.of {X Y:Nat}{a b:World}(h:Fx X a b):Fy X Y a b:=⟨h.os,h.tape,h.output,h.size,fun k hk h1 _=>h.block k hk (fun e=>h1 (Option.some.inj e))⟩
theorem Fy.trans {X Y:Nat}{a b c:World}(h:Fy X Y a b) (k:Fy X Y b c):Fy X Y a c:=
 ⟨k.os.trans h.os,k.tape.trans h.tape,k.output.trans h.output,zn5 h.size k.size,fun j hj h1 h2=>(k.block j (zn4 hj h.size) h1 h2).trans (h.block j hj h1 h2)⟩
theorem Fy.setY {X Y i:Nat}{a b:World}(h:Fy X Y a b) (u:Value):Fy X Y a (b.setCell ⟨Y,i,none⟩ u):=
 ⟨h.os,h.tape,h.output,by simpa using h.size,fun k hk h1 h2=>(Below.heap_setCell _ _ _ _ (fun e=>h2 e)).trans (h.block k hk h1 h2)⟩
theorem Fx.andY {X Y:Nat}{a b c:World}(h:Fx X a b) (k:Fy X Y b c) (hY:a.heap.size<=Y):Fx X a c:=
 ⟨k.os.trans h.os,k.tape.trans h.tape,k.output.trans h.output,zn5 h.size k.size,fun j hj h1=>(k.block j (zn4 hj h.size) (fun e=>h1 (congrArg some e)) (by omega)).trans (h.block j hj h1)⟩
theorem Bn.fy {w w':World}{X Y N:Nat}{c:Value}{cs:List Value}(h:Bn w N (c :: cs)) (hf:Fy X Y w w') (h1:N≠X) (h2:N≠Y):Bn w' N (c :: cs):=h.blk (hf.block N h.lt h1 h2)
section
variable {nb:List UInt8->Int}{rsv:List UInt8->Bool}{l:List Tk}
end
def fmX (x:Sx):Bool:=fmC x.1 x.2
def rdC (l:List Tk):Rd3:=psr (zz 0) zX l (7*l.length+6) 1 0 (-1)
def zaA (l:List Tk):Sx × Nat × Int:=if 0<=(rdC l).2.2 then (noX,(rdC l).2.2.toNat,12) else if fmX (rdC l).1=true then ((rdC l).1,(rdC l).2.1,0) else (noX,0,13)
theorem zdB:∀ (l:List UInt8) (n:Int),0<=n->l.all dB=true->n<=zz n l
 | [],n,_,_=>Int.le_refl _
 | c :: r,n,hn,h=>by
  simp only [List.all_cons,Bool.and_eq_true] at h
  have hd:48<=c.toNat/\c.toNat<=57:=of_decide_eq_true h.1
  have:=zdB r (10*n+((c.toNat:Int) - 48)) (by omega) h.2
  show n<=zz (10*n+((c.toNat:Int) - 48)) r
  omega
theorem zlg:∀ (l:List UInt8) (acc:Nat),l.all dB=true->zz (acc:Int) l<=1000000000->parseUintM (2 ^ 64 - 1) acc l=.ok (zz (acc:Int) l).toNat
 | [],acc,_,_=>by
  show NumEnd.ok acc=.ok ((acc:Int)).toNat
  rw [Int.toNat_natCast]
 | c :: r,acc,h,hb=>by
  simp only [List.all_cons,Bool.and_eq_true] at h
  have hd:48<=c.toNat/\c.toNat<=57:=of_decide_eq_true h.1
  have e:zz (acc:Int) (c :: r)=zz ((acc*10+(c.toNat - 48):Nat):Int) r:=by
   show zz (10*(acc:Int)+((c.toNat:Int) - 48)) r=_
   congr 1
   omega
  rw [e] at hb ⊢
  have hg:=zdB r ((acc*10+(c.toNat - 48):Nat):Int) (by omega) h.2
  rw [parseUintM,if_pos hd,if_neg (by omega),if_neg (by omega)]
  exact zlg r _ h.2 hb
theorem zi1 {b:List UInt8}(h:zai b=true):parseIntB 64 b=.ok (zz 0 b):=by
 obtain ⟨h1,h2,h3⟩:=zdw h
 have hall:b.all dB=true:=by
  unfold zai at h
  simp only [Bool.and_eq_true] at h
  simp_all
 cases b with
 | nil=>revert h;decide
 | cons c r=>
  have hc:=hall
  simp only [List.all_cons,Bool.and_eq_true] at hc
  have hd:48<=c.toNat/\c.toNat<=57:=of_decide_eq_true hc.1
  have hp:=zlg (c :: r) 0 hall h3
  rw [parseIntB_plain 64 c r (by omega) (by omega)]
  unfold parseUintB
  rw [if_neg (by simp),hp]
  show signlessC (2 ^ (64 - 1)) (.ok (zz 0 (c :: r)).toNat)=_
  unfold signlessC
  simp only
  rw [if_neg (by omega),Int.toNat_of_nonneg h2]
abbrev Pl:=Int × Int
abbrev OnC:=List UInt8 × (Bool × Sx) × List UInt8 × List (List UInt8 × Sx) × Pl
abbrev HdC:=(List UInt8 × Pl) × (Bool × Bool) × (List UInt8 × List UInt8) × (Int × Int) × List OnC
def St:Nat->Type
 | 0=>Empty
 | d+1=>HdC × List (St d)
abbrev RsC:=List Wd × Pl × Int
def wPl (w:Wd):Pl:=(w.2.2.1,w.2.2.2)
section
variable (fin:Pl)
def zak (r:RsC):Pl:=match r.1 with | []=>fin|w :: _=>wPl w
def zab (e:Int) (p:Pl) (r:RsC):RsC:=if r.2.2=0 then (r.1,p,e) else r
def isC (s:List UInt8) (r:RsC):Bool:=decide (r.2.2=0) && (match r.1 with | []=>false|w :: _=>decide ((tkW w).2=s))
def zi (s:List UInt8) (r:RsC):RsC:=if isC s r=true then (r.1.tail,r.2) else zab 12 (zak fin r) r
def zhT (s:List UInt8):Bool:=zae s && !zX s
def zE (r:RsC):(List UInt8 × Pl) × RsC:=match r.2.2=0,r.1 with
 | _,[]=>(([],(0,0)),zab 12 (zak fin r) r)
 | _,w :: l=>if r.2.2=0/\zhT (tkW w).2=true then (((tkW w).2,wPl w),(l,r.2)) else (([],(0,0)),zab 12 (zak fin r) r)
def zaS (r:RsC):Int × RsC:=match r.1 with
 | []=>(0,zab 12 (zak fin r) r)
 | w :: l=>if r.2.2=0/\w.1=2 then (zz 0 (tkW w).2,(l,r.2)) else (0,zab 12 (zak fin r) r)
def zbl (r:RsC):Sx × RsC:=if r.2.2≠0 then (noX,r) else
 if (zaA (r.1.map tkW)).2.2=0 then ((zaA (r.1.map tkW)).1,(r.1.drop (zaA (r.1.map tkW)).2.1,r.2)) else
 if (zaA (r.1.map tkW)).2.2=13 then ((zaA (r.1.map tkW)).1,zab 13 (zak fin r) r) else
 ((zaA (r.1.map tkW)).1,zab (zaA (r.1.map tkW)).2.2 (zak fin (r.1.drop (zaA (r.1.map tkW)).2.1,r.2)) (r.1.drop (zaA (r.1.map tkW)).2.1,r.2))
def wOn:List UInt8:=[111,110]
def wIf:List UInt8:=[105,102]
def wGo:List UInt8:=[103,111]
def zbC:List UInt8:=[115,101,116]
def zjf:List UInt8:=[97,108,108]
def zjx:List UInt8:=[101,110,100]
def wDo:List UInt8:=[100,111]
def zfj:List UInt8:=[117,110,100,111]
def wAt:List UInt8:=[97,116]
def zb1:List UInt8:=[114,101,116,114,105,101,115]
def zJ:List UInt8:=[115,116,97,116,101]
def zcW:List UInt8:=[99,104,97,114,116]
def zdv:List UInt8:=[118,97,114]
def zaX:Nat->List (List UInt8 × Sx)->RsC->List (List UInt8 × Sx) × RsC
 | 0,acc,r=>(acc,r)
 | g+1,acc,r=>if isC zbC r=true then
   let a:=zE fin (zi fin zbC r)
   let b:=zbl fin (zi fin [61] a.2)
   zaX g (acc++[(a.1.1,b.1)]) b.2
  else (acc,r)
def onR (r:RsC):OnC × RsC:=
 let a:=zE fin (zi fin wOn r)
 let g:(Bool × Sx) × RsC:=if isC wIf a.2=true then ((fun x=>((true,x.1),x.2)) (zbl fin (zi fin wIf a.2))) else ((false,noX),a.2)
 let t:=zE fin (zi fin wGo g.2)
 let s:=zaX fin (t.2.1.length+1) [] t.2
 ((a.1.1,g.1,t.1.1,s.1,a.1.2),s.2)
def zct (r:RsC):((Bool × Bool) × (List UInt8 × List UInt8) × (Int × Int)) × RsC:=
 if isC zjf r=true then (((true,false),([],[]),(0,0)),zi fin zjf r) else
 if isC zjx r=true then (((false,true),([],[]),(0,0)),zi fin zjx r) else
 if isC wDo r=true then
  let a:=zE fin (zi fin wDo r)
  let b:=zE fin (zi fin zfj a.2)
  let c:=zaS fin (zi fin wAt b.2)
  let e:=zaS fin (zi fin zb1 c.2)
  (((false,false),(a.1.1,b.1.1),(c.1,e.1)),e.2)
 else (((false,false),([],[]),(0,0)),r)
def inR {α:Type}(inner:RsC->α × RsC):Nat->List OnC->List α->RsC->(List OnC × List α) × RsC
 | 0,os,ss,r=>((os,ss),r)
 | g+1,os,ss,r=>if r.2.2=0/\isC [125] r=false then
   if isC wOn r=true then inR inner g (os++[(onR fin r).1]) ss (onR fin r).2
   else inR inner g os (ss++[(inner r).1]) (inner r).2
  else ((os,ss),r)
def stR:(k:Nat)->RsC->St (k+1) × RsC
 | 0,r=>(((([],(0,0)),(false,false),([],[]),(0,0),[]),[]),zab (if isC zJ r=true then 13 else 12) (zak fin r) r)
 | k+1,r=>
  let a:=zE fin (zi fin zJ r)
  let b:=zct fin (zi fin [123] a.2)
  let c:=inR fin (stR k) (b.2.1.length+1) [] [] b.2
  (((a.1,b.1.1,b.1.2.1,b.1.2.2,c.1.1),c.1.2),zi fin [125] c.2)
def zcq:Nat->List (List UInt8 × Int × Pl)->RsC->List (List UInt8 × Int × Pl) × RsC
 | 0,acc,r=>(acc,r)
 | g+1,acc,r=>if isC zdv r=true then
   let a:=zE fin (zi fin zdv r)
   let b:=zi fin [61] a.2
   let n:=if isC [45] b=true then (fun x=>(-x.1,x.2)) (zaS fin (zi fin [45] b)) else zaS fin b
   zcq g (acc++[(a.1.1,n.1,a.1.2)]) n.2
  else (acc,r)
def zdY:Nat->List (St 7)->RsC->List (St 7) × RsC
 | 0,acc,r=>(acc,r)
 | g+1,acc,r=>if r.2.2=0/\isC [125] r=false then zdY g (acc++[(stR fin 6 r).1]) (stR fin 6 r).2 else (acc,r)
end
abbrev ChC:=(List UInt8 × Pl) × Int × List (List UInt8 × Int × Pl) × List (St 7)
def noC:ChC:=(([],(0,0)),0,[],[])
def chR (fin:Pl) (ws:List Wd):ChC × Pl × Int:=
 let a:=zE fin (zi fin zcW (ws,(0,0),0))
 let n:=zaS fin a.2
 let b:=zi fin [123] n.2
 let v:=zcq fin (b.1.length+1) [] b
 let s:=zdY fin (v.2.1.length+1) [] v.2
 let e:=zi fin [125] s.2
 let z:=if e.2.2=0/\e.1≠[] then zab 12 (zak fin e) e else e
 if z.2.2=0 then ((a.1,n.1,v.1,s.1),(0,0),0) else (noC,z.2.1,z.2.2)
def zj6:List Ru->Int->Int->Pl
 | [],ln,co=>(ln,co)
 | u :: r,ln,co=>if u.1=10 then zj6 r (ln+1) 1 else zj6 r ln (co+1)
def zc5 (s:List UInt8):ChC × Pl × Int:=
 if (zaj s).2.2≠0 then (noC,(zaj s).2.1,(zaj s).2.2) else chR (zj6 (runes s) 1 1) (zaj s).1
theorem zaW (e:Int) (p:Pl) (r:RsC):(zab e p r).1=r.1:=by unfold zab;split<;>rfl
theorem zbu {e:Int}(he:e≠0) (p:Pl) (r:RsC):(zab e p r).2.2≠0:=by
 unfold zab
 split
 ·exact he
 ·rename_i h;exact h
theorem ziP (fin:Pl) (s:List UInt8) (r:RsC):(zi fin s r).1.length<=r.1.length:=by
 unfold zi
 split
 ·rw [List.length_tail];omega
 ·rw [zaW];exact Nat.le_refl _
theorem za5 (fin:Pl) {s:List UInt8}{r:RsC}(h:isC s r=true):(zi fin s r).1.length < r.1.length:=by
 unfold zi
 rw [if_pos h]
 unfold isC at h
 cases hr:r.1 with
 | nil=>rw [hr] at h;simp at h
 | cons w l=>simp
theorem ziU (fin:Pl) (r:RsC):(zE fin r).2.1.length<=r.1.length:=by
 unfold zE
 cases hr:r.1 with
 | nil=>simp only [zaW,hr];exact Nat.le_refl _
 | cons w l=>
  simp only
  split
  ·simp
  ·simp only [zaW,hr];exact Nat.le_refl _
theorem zkw (fin:Pl) (r:RsC):(zaS fin r).2.1.length<=r.1.length:=by
 unfold zaS
 cases hr:r.1 with
 | nil=>simp only [zaW,hr];exact Nat.le_refl _
 | cons w l=>
  simp only
  split
  ·simp
  ·simp only [zaW,hr];exact Nat.le_refl _
theorem zjd (fin:Pl) (r:RsC):(zbl fin r).2.1.length<=r.1.length:=by
 unfold zbl
 split
 ·exact Nat.le_refl _
 ·split
  ·simp
  ·split
   ·simp only [zaW];exact Nat.le_refl _
   ·simp only [zaW,List.length_drop];omega
theorem zmz:∀ (l:List UInt8) (acc:Nat),l.all dB=true->zz (acc:Int) l<=1000000000->parseUint10 acc l=.ok (zz (acc:Int) l).toNat
 | [],acc,_,_=>by
  show NumEnd.ok acc=.ok ((acc:Int)).toNat
  rw [Int.toNat_natCast]
 | c :: r,acc,h,hb=>by
  simp only [List.all_cons,Bool.and_eq_true] at h
  have hd:48<=c.toNat/\c.toNat<=57:=of_decide_eq_true h.1
  have e:zz (acc:Int) (c :: r)=zz ((acc*10+(c.toNat - 48):Nat):Int) r:=by
   show zz (10*(acc:Int)+((c.toNat:Int) - 48)) r=_
   congr 1
   omega
  rw [e] at hb ⊢
  have hg:=zdB r ((acc*10+(c.toNat - 48):Nat):Int) (by omega) h.2
  rw [parseUint10,if_pos hd,if_neg (by omega),if_neg (by omega)]
  exact zmz r _ h.2 hb
theorem zjX {b:List UInt8}(h:zai b=true):atoiAll b=.ok (zz 0 b):=by
 obtain ⟨h1,h2,h3⟩:=zdw h
 have hall:b.all dB=true:=by
  unfold zai at h
  simp only [Bool.and_eq_true] at h
  simp_all
 have hle:zz 0 b<=1000000000:=by
  unfold zai at h
  simp only [Bool.and_eq_true,decide_eq_true_eq] at h
  exact h.2
 cases b with
 | nil=>revert h;decide
 | cons c r=>
  have hd:48<=c.toNat/\c.toNat<=57:=by
   simp only [List.all_cons,Bool.and_eq_true] at hall
   exact of_decide_eq_true hall.1
  have hm:parseMag (c :: r)=.ok (zz 0 (c :: r)).toNat:=by
   unfold parseMag
   rw [if_neg (by simp)]
   exact zmz (c :: r) 0 hall hle
  have hg:=zdB (c :: r) 0 (by omega) hall
  unfold atoiAll
  simp only
  rw [if_neg (show ¬ (c.toNat=43∨c.toNat=45) by omega),hm]
  simp only
  rw [if_neg (by omega),if_neg (by omega),if_neg (by omega)]
  congr 1
  omega
theorem zji {b:List UInt8}(h:zai b=true):0<=zz 0 b/\zz 0 b<=1000000000:=by
 have hall:b.all dB=true:=by
  unfold zai at h
  simp only [Bool.and_eq_true] at h
  simp_all
 refine ⟨zdB b 0 (by omega) hall,?_⟩
 unfold zai at h
 simp only [Bool.and_eq_true,decide_eq_true_eq] at h
 exact h.2
theorem znb {c:UInt8}{r:List UInt8}(h:48<=c.toNat/\c.toNat<=57):(nx (c :: r)).1=(c.toNat:Int):=by
 obtain ⟨t,_,h2,_⟩:=zcg c r
 exact (h2 (by omega)).2
theorem zkr {b:List UInt8}(h:zae b=true):zai b=false:=by
 cases b with
 | nil=>rfl
 | cons c r=>
  unfold zae at h
  simp only [Bool.and_eq_true] at h
  have hl:=h.1.1
  cases hn:zai (c :: r) with
  | false=>rfl
  | true=>
   have hall:(c :: r).all dB=true:=by
    unfold zai at hn
    simp only [Bool.and_eq_true] at hn
    simp_all
   simp only [List.all_cons,Bool.and_eq_true] at hall
   have hd:48<=c.toNat/\c.toNat<=57:=of_decide_eq_true hall.1
   rw [znb hd,zfh] at hl
   simp only [Bool.or_eq_true,Bool.and_eq_true,decide_eq_true_eq] at hl
   omega
theorem zkK {K:Nat}{seg:List Ru}(h:OneW K seg) {v:Ru}{t:List Ru}(e:seg=v :: t):(nx (byt seg)).1=v.1:=by
 have hr:=h.runes
 have hb:byt seg≠[]:=by
  intro e2
  rw [e2] at hr
  rw [<- hr] at e
  cases e
 have:=zq hb
 rw [hr] at this
 have h2:=e.symm.trans this
 injection h2 with h3 h4
 exact (congrArg Prod.fst h3).symm
theorem ziY {K:Nat}{seg:List Ru}(h:OneW K seg):K=1↔zae (byt seg)=true:=by
 rcases h.kind with ⟨k,n⟩|⟨k,n⟩|⟨k,v,t,e,l,d⟩
 ·exact ⟨fun _=>n,fun _=>k⟩
 ·constructor
  ·intro h1;omega
  ·intro h1;rw [zkr h1] at n;cases n
 ·constructor
  ·intro h1;omega
  ·intro h1
   unfold zae at h1
   simp only [Bool.and_eq_true] at h1
   rw [zkK h e,l] at h1
   exact absurd h1.1.1 (by decide)
theorem zlL {b:List UInt8}(h:zai b=true):zX b=false:=by
 cases hr:zX b with
 | false=>rfl
 | true=>
  have hall:zjJ.all (fun x=>!zai x)=true:=by decide
  unfold zX at hr
  obtain ⟨x,hx,hb⟩:=List.any_eq_true.1 hr
  have h1:=List.all_eq_true.1 hall x hx
  have h2:b=x:=by simpa using hb
  subst h2
  rw [h] at h1
  exact absurd h1 (by decide)
def Goes (r r':RsC):Prop:=r'.1.length<=r.1.length/\(r'.2.2=0->r.2.2=0)
theorem Goes.refl (r:RsC):Goes r r:=⟨Nat.le_refl _,id⟩
theorem Goes.trans {a b c:RsC}(h:Goes a b) (k:Goes b c):Goes a c:=⟨zn5 k.1 h.1,fun e=>h.2 (k.2 e)⟩
theorem zbr (e:Int) (p:Pl) (r:RsC):Goes r (zab e p r):=by
 refine ⟨by rw [zaW];exact Nat.le_refl _,fun h=>?_⟩
 unfold zab at h
 split at h
 ·assumption
 ·exact h
theorem zkU {s:List UInt8}{r:RsC}(h:isC s r=true):r.2.2=0:=by
 unfold isC at h
 simp only [Bool.and_eq_true,decide_eq_true_eq] at h
 exact h.1
theorem zR (fin:Pl) (s:List UInt8) (r:RsC):Goes r (zi fin s r):=by
 by_cases h:isC s r=true
 ·exact ⟨ziP fin s r,fun _=>zkU h⟩
 ·unfold zi;rw [if_neg h];exact zbr _ _ _
theorem zlZ {fin:Pl}{s:List UInt8}{r:RsC}(h:(zi fin s r).2.2=0):isC s r=true:=by
 by_cases hi:isC s r=true
 ·exact hi
 ·unfold zi at h
  rw [if_neg hi] at h
  exact absurd h (zbu (by decide) _ _)
theorem zaY (fin:Pl) (r:RsC):Goes r (zE fin r).2:=by
 refine ⟨ziU fin r,?_⟩
 unfold zE
 cases hr:r.1 with
 | nil=>exact (zbr _ _ _).2
 | cons w l=>
  simp only
  split
  ·rename_i h;exact fun _=>h.1
  ·exact (zbr _ _ _).2
theorem zdi (fin:Pl) (r:RsC):Goes r (zaS fin r).2:=by
 refine ⟨zkw fin r,?_⟩
 unfold zaS
 cases hr:r.1 with
 | nil=>exact (zbr _ _ _).2
 | cons w l=>
  simp only
  split
  ·rename_i h;exact fun _=>h.1
  ·exact (zbr _ _ _).2
theorem zdK (fin:Pl) (r:RsC):Goes r (zbl fin r).2:=by
 refine ⟨zjd fin r,?_⟩
 unfold zbl
 split
 ·exact id
 ·rename_i h
  exact fun _=>by simpa using h
theorem zeV (fin:Pl):∀ (g:Nat) (acc:List (List UInt8 × Sx)) (r:RsC),Goes r (zaX fin g acc r).2
 | 0,acc,r=>Goes.refl r
 | g+1,acc,r=>by
  unfold zaX
  split
  ·exact ((zR fin zbC r).trans ((zaY fin _).trans ((zR fin [61] _).trans (zdK fin _)))).trans (zeV fin g _ _)
  ·exact Goes.refl r
theorem zf1 (fin:Pl) (r:RsC):Goes (zi fin wOn r) (onR fin r).2:=by
 have h1:Goes (zi fin wOn r) (zE fin (zi fin wOn r)).2:=zaY fin _
 have h2:Goes (zE fin (zi fin wOn r)).2 (if isC wIf (zE fin (zi fin wOn r)).2=true then ((fun x=>((true,x.1),x.2)) (zbl fin (zi fin wIf (zE fin (zi fin wOn r)).2)):(Bool × Sx) × RsC) else ((false,noX),(zE fin (zi fin wOn r)).2)).2:=by
  split
  ·exact (zR fin wIf _).trans (zdK fin _)
  ·exact Goes.refl _
 exact h1.trans (h2.trans ((zR fin wGo _).trans ((zaY fin _).trans (zeV fin _ _ _))))
theorem zlX (fin:Pl) (r:RsC):Goes r (onR fin r).2:=(zR fin wOn r).trans (zf1 fin r)
theorem zlF {fin:Pl}{r:RsC}(h:isC wOn r=true):(onR fin r).2.1.length < r.1.length:=Nat.lt_of_le_of_lt (zf1 fin r).1 (za5 fin h)
theorem zjF (fin:Pl) (r:RsC):Goes r (zct fin r).2:=by
 unfold zct
 split
 ·exact zR fin _ r
 ·split
  ·exact zR fin _ r
  ·split
   ·exact (zR fin wDo r).trans ((zaY fin _).trans ((zR fin zfj _).trans ((zaY fin _).trans ((zR fin wAt _).trans ((zdi fin _).trans ((zR fin zb1 _).trans (zdi fin _)))))))
   ·exact Goes.refl r
theorem zfA {α:Type}(fin:Pl) (inner:RsC->α × RsC) (hi:∀ r,Goes r (inner r).2):∀ (g:Nat) (os:List OnC) (ss:List α) (r:RsC),Goes r (inR fin inner g os ss r).2
 | 0,os,ss,r=>Goes.refl r
 | g+1,os,ss,r=>by
  unfold inR
  split
  ·split
   ·exact (zlX fin r).trans (zfA fin inner hi g _ _ _)
   ·exact (hi r).trans (zfA fin inner hi g _ _ _)
  ·exact Goes.refl r
theorem zib:∀ (fin:Pl) (k:Nat) (r:RsC),Goes r (stR fin k r).2/\((stR fin k r).2.2.2=0->(stR fin k r).2.1.length < r.1.length)
 | fin,0,r=>by
  refine ⟨zbr _ _ r,fun h=>?_⟩
  refine absurd h (zbu ?_ _ r)
  split<;>decide
 | fin,k+1,r=>by
  have h1:Goes (zi fin zJ r) (stR fin (k+1) r).2:=
   (zaY fin _).trans ((zR fin [123] _).trans ((zjF fin _).trans ((zfA fin (stR fin k) (fun r=>(zib fin k r).1) _ _ _ _).trans (zR fin [125] _))))
  exact ⟨(zR fin zJ r).trans h1,fun h=>Nat.lt_of_le_of_lt h1.1 (za5 fin (zlZ (h1.2 h)))⟩
section
variable (fin:Pl)
def inP {α:Type}(inner:RsC->α × RsC):Nat->List OnC->List α->RsC->(List OnC × List α) × RsC
 | 0,os,ss,r=>((os,ss),r)
 | g+1,os,ss,r=>if isC wOn r=true then inP inner g (os++[(onR fin r).1]) ss (onR fin r).2
  else if isC zJ r=true then inP inner g os (ss++[(inner r).1]) (inner r).2
  else ((os,ss),r)
def zHd:HdC:=(([],(0,0)),(false,false),([],[]),(0,0),[])
def stP:(k:Nat)->RsC->St (k+1) × RsC
 | 0,r=>((zHd,[]),zab 13 (zak fin r) r)
 | k+1,r=>
  let a:=zE fin (zi fin zJ r)
  let b:=zct fin (zi fin [123] a.2)
  let c:=inP fin (stP k) (b.2.1.length+1) [] [] b.2
  (((a.1,b.1.1,b.1.2.1,b.1.2.2,c.1.1),c.1.2),zi fin [125] c.2)
def zc3:Nat->List (St 7)->RsC->List (St 7) × RsC
 | 0,acc,r=>(acc,r)
 | g+1,acc,r=>if isC zJ r=true then zc3 g (acc++[(stP fin 6 r).1]) (stP fin 6 r).2 else (acc,r)
end
theorem zbS {r:RsC}(h:r.2.2≠0) (s:List UInt8):isC s r=false:=by unfold isC;rw [decide_eq_false h];rfl
theorem zeq {r:RsC}(h:r.2.2≠0) (e:Int) (p:Pl):zab e p r=r:=by unfold zab;rw [if_neg h]
theorem zbB {r:RsC}(h:r.2.2≠0) (fin:Pl) (s:List UInt8):zi fin s r=r:=by
 unfold zi
 rw [zbS h,if_neg (by decide),zeq h]
theorem zf6 {r:RsC}(h:r.2.2≠0) (fin:Pl):zE fin r=(([],(0,0)),r):=by
 unfold zE
 cases hr:r.1 with
 | nil=>simp only;rw [zeq h]
 | cons w l=>simp only;rw [if_neg (fun e=>h e.1),zeq h]
theorem zf9 {r:RsC}(h:r.2.2≠0) (fin:Pl):zct fin r=(((false,false),([],[]),(0,0)),r):=by
 unfold zct
 rw [zbS h,zbS h,zbS h,if_neg (by decide),if_neg (by decide),if_neg (by decide)]
theorem zfP {α:Type}{r:RsC}(h:r.2.2≠0) (fin:Pl) (inner:RsC->α × RsC):∀ (g:Nat) (os:List OnC) (ss:List α),inR fin inner g os ss r=((os,ss),r)
 | 0,os,ss=>rfl
 | g+1,os,ss=>by unfold inR;rw [if_neg (fun e=>h e.1)]
theorem ziE {α:Type}{r:RsC}(h:r.2.2≠0) (fin:Pl) (inner:RsC->α × RsC):∀ (g:Nat) (os:List OnC) (ss:List α),inP fin inner g os ss r=((os,ss),r)
 | 0,os,ss=>rfl
 | g+1,os,ss=>by unfold inP;rw [zbS h,zbS h,if_neg (by decide),if_neg (by decide)]
theorem zft {r:RsC}(h:r.2.2≠0) (fin:Pl):∀ (g:Nat) (acc:List (St 7)),zdY fin g acc r=(acc,r)
 | 0,acc=>rfl
 | g+1,acc=>by unfold zdY;rw [if_neg (fun e=>h e.1)]
theorem zgI {r:RsC}(h:r.2.2≠0) (fin:Pl):∀ (g:Nat) (acc:List (St 7)),zc3 fin g acc r=(acc,r)
 | 0,acc=>rfl
 | g+1,acc=>by unfold zc3;rw [zbS h,if_neg (by decide)]
theorem zdm {r:RsC}{fin:Pl}{s:List UInt8}(h:isC s r=false):zi fin s r=zab 12 (zak fin r) r:=by
 unfold zi;rw [h,if_neg (by decide)]
theorem zkq {r:RsC}(fin:Pl) (h0:r.2.2=0) (h:isC zJ r=false):∀ k,(stR fin k r).2=zab 12 (zak fin r) r
 | 0=>by unfold stR;rw [h,if_neg (by decide)]
 | k+1=>by
  have e:(zab 12 (zak fin r) r).2.2≠0:=zbu (by decide) _ _
  unfold stR
  simp only [zdm h]
  rw [zf6 e]
  simp only
  rw [zbB e,zf9 e]
  simp only
  rw [zfP e,zbB e]
theorem zhk {r:RsC}{s t:List UInt8}(h:isC s r=true) (hne:s≠t):isC t r=false:=by
 unfold isC at h ⊢
 cases hr:r.1 with
 | nil=>rw [hr] at h;simp at h
 | cons w l=>
  rw [hr] at h
  simp only [Bool.and_eq_true,decide_eq_true_eq] at h
  simp only [h.2,decide_eq_false hne,Bool.and_false]
theorem zkQ {α:Type}(fin:Pl) (i1 i2:RsC->α × RsC) (hi:∀ r,isC zJ r=true->(i2 r).2=(i1 r).2/\((i1 r).2.2.2=0->(i2 r).1=(i1 r).1)) (hn:∀ r:RsC,r.2.2=0->isC zJ r=false->(i1 r).2=zab 12 (zak fin r) r) :
  ∀ (g:Nat) (os:List OnC) (ss:List α) (r:RsC),zi fin [125] (inP fin i2 g os ss r).2=zi fin [125] (inR fin i1 g os ss r).2/\((zi fin [125] (inR fin i1 g os ss r).2).2.2=0->(inP fin i2 g os ss r).1=(inR fin i1 g os ss r).1)
 | 0,os,ss,r=>⟨rfl,fun _=>rfl⟩
 | g+1,os,ss,r=>by
  by_cases hz:r.2.2≠0
  ·have h0:=hz
   rw [zfP h0,ziE h0];exact ⟨rfl,fun _=>rfl⟩
  have h0:r.2.2=0:=Decidable.not_not.1 hz
  unfold inP inR
  by_cases h1:isC [125] r=true
  ·rw [zhk h1 (t:=wOn) (by decide),zhk h1 (t:=zJ) (by decide),if_neg (by decide),if_neg (by decide),if_neg (by rw [h1];simp)]
   exact ⟨rfl,fun _=>rfl⟩
  have h1':isC [125] r=false:=by simpa using h1
  rw [if_pos (⟨h0,h1'⟩:r.2.2=0/\isC [125] r=false)]
  by_cases h2:isC wOn r=true
  ·rw [if_pos h2,if_pos h2]
   exact zkQ fin i1 i2 hi hn g _ _ _
  rw [if_neg h2,if_neg h2]
  by_cases h3:isC zJ r=true
  ·rw [if_pos h3]
   obtain ⟨e1,e2⟩:=hi r h3
   rw [e1]
   by_cases h4:(i1 r).2.2.2=0
   ·rw [e2 h4]
    exact zkQ fin i1 i2 hi hn g _ _ _
   ·rw [zfP h4,ziE h4]
    refine ⟨rfl,fun h=>?_⟩
    rw [zbB h4] at h
    exact absurd h h4
  ·rw [if_neg h3]
   have h3':isC zJ r=false:=by simpa using h3
   have e:=hn r h0 h3'
   have eb:(zab 12 (zak fin r) r).2.2≠0:=zbu (by decide) _ _
   rw [e,zfP eb,zbB eb]
   refine ⟨by rw [zdm h1'],fun h=>absurd h eb⟩
theorem zlk (fin:Pl):∀ (k:Nat) (r:RsC),isC zJ r=true->(stP fin k r).2=(stR fin k r).2/\((stR fin k r).2.2.2=0->(stP fin k r).1=(stR fin k r).1)
 | 0,r,h=>by
  unfold stP stR
  rw [h,if_pos rfl]
  exact ⟨rfl,fun _=>rfl⟩
 | k+1,r,h=>by
  have hin:=zkQ fin (stR fin k) (stP fin k) (fun r h=>zlk fin k r h) (fun r h0 h=>zkq fin h0 h k) ((zct fin (zi fin [123] (zE fin (zi fin zJ r)).2)).2.1.length+1) [] [] (zct fin (zi fin [123] (zE fin (zi fin zJ r)).2)).2
  unfold stP stR
  simp only
  refine ⟨hin.1,fun h0=>?_⟩
  have e:=hin.2 h0
  rw [e]
theorem zk2 (fin:Pl):∀ (g:Nat) (acc:List (St 7)) (r:RsC),zi fin [125] (zc3 fin g acc r).2=zi fin [125] (zdY fin g acc r).2/\((zi fin [125] (zdY fin g acc r).2).2.2=0->(zc3 fin g acc r).1=(zdY fin g acc r).1)
 | 0,acc,r=>⟨rfl,fun _=>rfl⟩
 | g+1,acc,r=>by
  by_cases hz:r.2.2≠0
  ·have h0:=hz
   rw [zft h0,zgI h0];exact ⟨rfl,fun _=>rfl⟩
  have h0:r.2.2=0:=Decidable.not_not.1 hz
  unfold zc3 zdY
  by_cases h1:isC [125] r=true
  ·rw [zhk h1 (t:=zJ) (by decide),if_neg (by decide),if_neg (by rw [h1];simp)]
   exact ⟨rfl,fun _=>rfl⟩
  have h1':isC [125] r=false:=by simpa using h1
  rw [if_pos (⟨h0,h1'⟩:r.2.2=0/\isC [125] r=false)]
  by_cases h3:isC zJ r=true
  ·rw [if_pos h3]
   obtain ⟨e1,e2⟩:=zlk fin 6 r h3
   rw [e1]
   by_cases h4:(stR fin 6 r).2.2.2=0
   ·rw [e2 h4]
    exact zk2 fin g _ _
   ·rw [zft h4,zgI h4]
    refine ⟨rfl,fun h=>?_⟩
    rw [zbB h4] at h
    exact absurd h h4
  ·rw [if_neg h3]
   have h3':isC zJ r=false:=by simpa using h3
   have e:=zkq fin h0 h3' 6
   have eb:(zab 12 (zak fin r) r).2.2≠0:=zbu (by decide) _ _
   rw [e,zft eb,zbB eb]
   refine ⟨by rw [zdm h1'],fun h=>absurd h eb⟩
def zbm (fin:Pl) (e:RsC):RsC:=if e.2.2=0/\e.1≠[] then zab 12 (zak fin e) e else e
theorem zmh {fin:Pl}{e:RsC}(h:(zbm fin e).2.2=0):e.2.2=0:=by
 unfold zbm at h
 by_cases hc:e.2.2=0/\e.1≠[]
 ·exact hc.1
 ·rw [if_neg hc] at h;exact h
def chP (fin:Pl) (ws:List Wd):ChC × RsC:=
 let a:=zE fin (zi fin zcW (ws,(0,0),0))
 let n:=zaS fin a.2
 let b:=zi fin [123] n.2
 let v:=zcq fin (b.1.length+1) [] b
 let s:=zc3 fin (v.2.1.length+1) [] v.2
 ((a.1,n.1,v.1,s.1),zi fin [125] s.2)
def chZ (fin:Pl) (x:ChC × RsC):ChC × Pl × Int:=if (zbm fin x.2).2.2=0 then (x.1,(0,0),0) else (noC,(zbm fin x.2).2.1,(zbm fin x.2).2.2)
theorem znD (fin:Pl) (ws:List Wd):chR fin ws=chZ fin (chP fin ws):=by
 unfold chR chZ chP
 simp only
 generalize zE fin (zi fin zcW (ws,(0,0),0))=A
 generalize zaS fin A.2=N
 generalize zcq fin ((zi fin [123] N.2).1.length+1) [] (zi fin [123] N.2)=V
 obtain ⟨e1,e2⟩:=zk2 fin (V.2.1.length+1) [] V.2
 rw [e1]
 show (if (zbm fin (zi fin [125] (zdY fin (V.2.1.length+1) [] V.2).2)).2.2=0 then _ else (noC,(zbm fin (zi fin [125] (zdY fin (V.2.1.length+1) [] V.2).2)).2.1,(zbm fin (zi fin [125] (zdY fin (V.2.1.length+1) [] V.2).2)).2.2))=_
 by_cases h:(zbm fin (zi fin [125] (zdY fin (V.2.1.length+1) [] V.2).2)).2.2=0
 ·rw [if_pos h,if_pos h,e2 (zmh h)]
 ·rw [if_neg h,if_neg h]
theorem zgt (fin:Pl) (k:Nat) {r:RsC}(h:isC zJ r=true):Goes r (stP fin k r).2/\((stP fin k r).2.2.2=0->(stP fin k r).2.1.length < r.1.length):=by
 rw [(zlk fin k r h).1]
 exact zib fin k r
