import Derived.Test.YtfjdceknbdmhpaaGreatDoorWxc02
import Derived.Test.YtfjdceknbdmhpaaGreatDoorRows
import Derived.Test.YtfjdceknbdmhpaaGreatDoorWxc01
import Derived.Deep.LoopGhost
import Derived.Deep.RegionHeld
import Derived.Deep.DrawnRows
import Derived.WalkSmall
import Derived.Deep.AppendLies
import Derived.BigQuiet
import Derived.Deep.QuietTactic
set_option maxRecDepth 100000
set_option maxHeartbeats 32000000
namespace Go.Proofs.YtfjdceknbdmhpaaGreatDoor
open Go.RowKit Go.Lib
set_option linter.unusedSimpArgs false
set_option linter.unusedVariables false
attribute [local go_sem ↓] Go.wp_at_zero Go.wp_at_succ
structure OneW (K:Nat) (seg:List Ru):Prop where
 k:K≠0
 f:fst1 seg=(K,seg.length)
 g:∀ v∈seg,Good v
 h:∃ v t,seg=v :: t/\v.1≠10/\v.1≠32/\v.1≠9/\v.1≠35
 l:(byt seg).length<=12000
theorem byt_take_le (rs:List Ru) (m:Nat):(byt (rs.take m)).length<=(byt rs).length:=by have:=byt_split rs m;omega
theorem byt_drop_le (rs:List Ru) (m:Nat):(byt (rs.drop m)).length<=(byt rs).length:=by have:=byt_split rs m;omega
theorem wrds_one:∀ (f:Nat) (rs:List Ru),rs.length<=f->(∀ v∈rs,v.1≠-1->Good v)->(byt rs).length<=12000->∀ (ln co:Int) (n:Nat),n<=3000->(wrds rs ln co n).2.2=0->
  (∀ w∈(wrds rs ln co n).1,OneW w.1 w.2.1)/\n+(wrds rs ln co n).1.length<=3000
 | 0,rs,h,_,_,ln,co,n,hn,_=>by
  have:rs=[]:=List.eq_nil_of_length_eq_zero (by omega)
  subst this
  exact ⟨(fun w hw=>(by cases hw)),by rw [wrds_nil];simpa using hn⟩
 | f+1,[],h,_,_,ln,co,n,hn,_=>⟨(fun w hw=>(by cases hw)),by rw [wrds_nil];simpa using hn⟩
 | f+1,v :: t,h,hg,hb,ln,co,n,hn,h0=>by
  have ht:t.length<=f:=by simp at h;omega
  have hgt:∀ v∈t,v.1≠-1->Good v:=fun x hx=>hg x (List.mem_cons_of_mem _ hx)
  have hbt:(byt t).length<=12000:=by rw [byt_cons,List.length_append] at hb;omega
  have e:=wrds_cons v t ln co n
  by_cases c1:v.1=10
  ·simp only [if_pos c1] at e
   rw [e] at h0 ⊢
   exact wrds_one f t ht hgt hbt _ _ _ hn h0
  simp only [if_neg c1] at e
  by_cases c2:v.1=32∨v.1=9
  ·simp only [if_pos c2] at e
   rw [e] at h0 ⊢
   exact wrds_one f t ht hgt hbt _ _ _ hn h0
  simp only [if_neg c2] at e
  by_cases c3:v.1=35
  ·simp only [if_pos c3] at e
   have hp:=rest_pos (t:=t) c1
   rw [e] at h0 ⊢
   exact wrds_one f _ (by rw [List.length_drop];simp;omega) (fun x hx=>hg x (List.mem_of_mem_drop hx)) (Nat.le_trans (byt_drop_le _ _) hb) _ _ _ hn h0
  simp only [if_neg c3] at e
  by_cases c4:(fst1 (v :: t)).1=0
  ·simp only [if_pos c4] at e
   rw [e] at h0;simp at h0
  simp only [if_neg c4] at e
  by_cases c5:n=3000
  ·simp only [if_pos c5] at e
   rw [e] at h0;simp at h0
  simp only [if_neg c5] at e
  obtain ⟨hm,hm2⟩:=fst1_le v t c4
  obtain ⟨hf,hgd⟩:=fst1_take c4
  rw [e] at h0 ⊢
  obtain ⟨hr0,hX⟩:=pre_ok h0
  have ih:=wrds_one f _ (by rw [List.length_drop];simp;omega) (fun x hx=>hg x (List.mem_of_mem_drop hx)) (Nat.le_trans (byt_drop_le _ _) hb) _ _ _ (by omega) hr0
  rw [hX]
  refine ⟨fun w hw=>?_,by rw [List.length_cons];omega⟩
  rcases List.mem_cons.1 hw with rfl|hw
  ·have hl:((v :: t).take (fst1 (v :: t)).2).length=(fst1 (v :: t)).2:=by rw [List.length_take];omega
   refine ⟨c4,?_,fun x hx=>hg x (List.mem_of_mem_take hx) (hgd x hx),?_,Nat.le_trans (byt_take_le _ _) hb⟩
   ·show fst1 ((v :: t).take (fst1 (v :: t)).2)=_
    rw [hf,hl]
   ·obtain ⟨m,hmm⟩:∃ m,(fst1 (v :: t)).2=m+1:=⟨(fst1 (v :: t)).2 - 1,by omega⟩
    refine ⟨v,t.take m,?_,c1,fun h=>c2 (.inl h),fun h=>c2 (.inr h),c3⟩
    show (v :: t).take (fst1 (v :: t)).2=_
    rw [hmm,List.take_succ_cons]
  ·exact ih.1 w hw
theorem words_one {l:List UInt8}(h:(wordsS l).2.2=0):(∀ w∈(wordsS l).1,OneW w.1 w.2.1)/\(wordsS l).1.length<=3000:=by
 by_cases hl:12000 < l.length
 ·unfold wordsS at h;rw [if_pos hl] at h;simp at h
 have e:wordsS l=wrds (runes l) 1 1 0:=by unfold wordsS;rw [if_neg hl]
 rw [e] at h ⊢
 have:=wrds_one _ _ Nat.le.refl (runes_are_good _ l Nat.le.refl) (by rw [byt_runes _ l Nat.le.refl];omega) 1 1 0 (by omega) h
 exact ⟨this.1,by omega⟩
theorem OneW.runes {K:Nat}{seg:List Ru}(h:OneW K seg):runes (byt seg)=seg:=by
 have:=runes_goods seg [] h.g
 rw [List.append_nil,runes_nil,List.append_nil] at this
 exact this
theorem OneW.words {K:Nat}{seg:List Ru}(h:OneW K seg):wordsS (byt seg)=([(K,seg,1,1)],(0,0),0):=by
 have hr:=h.runes
 have hl:=h.l
 have hf:=h.f
 have hk:=h.k
 unfold wordsS
 rw [if_neg (by omega),hr]
 obtain ⟨v,t,e,h1,h2,h3,h4⟩:=h.h
 rw [e] at hf ⊢
 rw [wrds_cons,if_neg h1,if_neg (fun q=>q.elim h2 h3),if_neg h4,hf,if_neg hk,if_neg (by decide),List.take_length,List.drop_length,wrds_nil]
 rfl
theorem OneW.kind {K:Nat}{seg:List Ru}(h:OneW K seg):(K=1/\nameS (byt seg)=true)∨(K=2/\numB (byt seg)=true)∨(K=3/\∃ v t,seg=v :: t/\letter v.1=false/\dgt v.1=false):=by
 have hr:=h.runes
 have hf:=h.f
 have hk:=h.k
 obtain ⟨v,t,e,_⟩:=h.h
 have hbne:byt seg≠[]:=fun e0=>by rw [e0,runes_nil] at hr;rw [<- hr] at e;cases e
 have hnx:(nx (byt seg)).1=v.1:=by
  have:=runes_cons hbne
  rw [hr,e] at this
  injection this with h1 _
  rw [e]
  exact (congrArg Prod.fst h1).symm
 rw [e,fst1_cons,<- e] at hf
 by_cases a:letter v.1=true
 ·rw [if_pos a] at hf
  by_cases b:spn seg<=24
  ·rw [if_pos b] at hf
   injection hf with h1 h2
   left
   refine ⟨h1.symm,?_⟩
   unfold nameS
   have hs:spb (byt seg)=(byt seg).length:=by unfold spb;rw [hr,h2,List.take_length]
   rw [hnx,a,hs,hr,decide_eq_true b];simp
  ·rw [if_neg b] at hf
   injection hf with h1 _
   exact absurd h1.symm hk
 ·rw [if_neg a] at hf
  by_cases d:dgt v.1=true
  ·rw [if_pos d] at hf
   by_cases b:numb (seg.take (spn seg))=true
   ·rw [if_pos b] at hf
    injection hf with h1 h2
    right;left
    refine ⟨h1.symm,?_⟩
    rw [h2,List.take_length] at b
    rw [numB_numb (l:=byt seg) seg (fun v hv=>by rw [hr];exact hv)]
    exact b
   ·rw [if_neg b] at hf
    injection hf with h1 _
    exact absurd h1.symm hk
  ·rw [if_neg d] at hf
   by_cases b:sgn seg=0
   ·rw [if_pos b] at hf
    injection hf with h1 _
    exact absurd h1.symm hk
   ·rw [if_neg b] at hf
    injection hf with h1 _
    right;right
    exact ⟨h1.symm,v,t,e,by simpa using a,by simpa using d⟩
def tkW (x:Wd):Tk:=(x.1,byt x.2.1)
theorem OneW.good {K:Nat}{seg:List Ru}(h:OneW K seg):GdW1 (K,byt seg):=by
 rcases h.kind with ⟨rfl,h1⟩|⟨rfl,h1⟩|⟨rfl,_⟩
 ·obtain ⟨a,b,c,d⟩:=name_far h1
  exact ⟨.inl rfl,fun _=>⟨a,b,c,d,fun e=>by simp only at e;rw [e] at h1;revert h1;decide⟩⟩
 ·obtain ⟨a,b,c,d⟩:=num_far h1
  exact ⟨.inr (.inl rfl),fun _=>⟨a,b,c,d,fun e=>by simp only at e;rw [e] at h1;revert h1;decide⟩⟩
 ·exact ⟨.inr (.inr rfl),fun h=>absurd rfl h⟩
theorem good_all {l:List Wd}(h:∀ w∈l,OneW w.1 w.2.1):∀ w∈l.map tkW,GdW1 w:=fun w hw=>by
 obtain ⟨x,hx,rfl⟩:=List.mem_map.1 hw
 exact (h x hx).good
def BadOr (Q:Nat->Nat->Sx->Prop) (n:Nat) (r:Rd3):Prop:=(r.2.2 = -1/\Q n r.2.1 r.1)∨0<=r.2.2
section
variable {nb:List UInt8->Int}{rsv:List UInt8->Bool}{l:List Tk}{Q:Nat->Nat->Sx->Prop}
theorem lop_pos {next:Nat->Int->Rd3}{k n:Nat}{x:Sx}{b:Int}(h:0<=b):∀ G,lop l next k G (x,n,b)=(x,n,b)
 | 0=>rfl
 | G+1=>by
  unfold lop
  cases l[n]? with
  | none=>rfl
  | some w=>simp only;rw [if_neg (fun q=>by have:=q.1;omega)]
theorem lop_all {next:Nat->Int->Rd3}{k n0:Nat}(hk:1<=k) (h2:∀ n m n' w x y,l[m]?=some w->lv w.2≠0->Q n m x->Q (m+1) n' y->Q n n' (mk2 ⟨w.2.toArray⟩ x y)) (hN:∀ n,BadOr Q n (next n (-1))):∀ (G n:Nat) (x:Sx),Q n0 n x->BadOr Q n0 (lop l next k G (x,n,-1))
 | 0,n,x,hx=>.inl ⟨rfl,hx⟩
 | G+1,n,x,hx=>by
  unfold lop
  cases hw:l[n]? with
  | none=>exact .inl ⟨rfl,hx⟩
  | some w=>
   simp only
   by_cases hc:(-1:Int) < 0/\lv w.2=k
   ·rw [if_pos hc]
    have hne:lv w.2≠0:=by have:=hc.2;omega
    obtain ⟨r,hr⟩:∃ r,next (n+1) (-1)=r:=⟨_,rfl⟩
    have hb:=hN (n+1)
    rw [hr] at hb ⊢
    obtain ⟨y,n',b'⟩:=r
    rcases hb with ⟨e1,e2⟩|e1
    ·simp only at e1 e2
     subst e1
     have hp:=h2 n0 n n' w x y hw hne hx e2
     by_cases h3:k=3
     ·rw [if_pos h3];exact .inl ⟨rfl,hp⟩
     ·rw [if_neg h3];exact lop_all hk h2 hN G n' _ hp
    ·simp only at e1
     by_cases h3:k=3
     ·rw [if_pos h3];exact .inr e1
     ·rw [if_neg h3,lop_pos e1];exact .inr e1
   ·rw [if_neg hc];exact .inl ⟨rfl,hx⟩
theorem psr_all (h0:∀ n w x,l[n]?=some w->leafY nb rsv w=some x->Q n (n+1) x) (h1:∀ n n' k x,k=3∨k=4->Q (n+1) n' x->Q n n' (mk1 k x)) (h2:∀ n m n' w x y,l[m]?=some w->lv w.2≠0->Q n m x->Q (m+1) n' y->Q n n' (mk2 ⟨w.2.toArray⟩ x y))
  (h3:∀ n n' x,Q (n+1) n' x->Q n (n'+1) x):∀ (f k n:Nat),1<=k->k<=6->BadOr Q n (psr nb rsv l f k n (-1))
 | 0,k,n,_,_=>.inr (by show (0:Int)<=if (-1:Int) < 0 then (n:Int) else -1;rw [if_pos (by decide)];omega)
 | f+1,k,n,hk,hk6=>by
  by_cases h6:k=6
  ·subst h6
   cases hw:l[n]? with
   | none=>rw [psr6_end hw];exact .inr (by show (0:Int)<=(n:Int);omega)
   | some w=>
    by_cases hu:w.2=[33]∨w.2=[45]
    ·rw [psr6_un hw hu]
     rcases psr_all h0 h1 h2 h3 f 6 (n+1) (by omega) (by omega) with ⟨e1,e2⟩|e1
     ·exact .inl ⟨e1,h1 _ _ _ _ (by split<;>simp) e2⟩
     ·exact .inr e1
    ·by_cases h40:w.2=[40]
     ·rw [psr6_par hw h40]
      rcases psr_all h0 h1 h2 h3 f 1 (n+1) (by omega) (by omega) with ⟨e1,e2⟩|e1
      ·split
       ·exact .inl ⟨e1,h3 _ _ _ e2⟩
       ·refine .inr ?_
        show (0:Int)<=if _ < (0:Int) then _ else _
        rw [e1,if_pos (by decide)];omega
      ·rw [if_neg (by unfold isT;simp only [Bool.and_eq_true,decide_eq_true_eq];omega)]
       refine .inr ?_
       show (0:Int)<=if _ < (0:Int) then _ else _
       rw [if_neg (by omega)];exact e1
     ·rw [psr6_leaf hw hu h40]
      cases hlf:leafY nb rsv w with
      | some x=>exact .inl ⟨rfl,h0 n w x hw hlf⟩
      | none=>exact .inr (by show (0:Int)<=(n:Int);omega)
  ·rw [psr,if_neg h6]
   obtain ⟨r,hr⟩:∃ r,psr nb rsv l f (k+1) n (-1)=r:=⟨_,rfl⟩
   have hb:=psr_all h0 h1 h2 h3 f (k+1) n (by omega) (by omega)
   rw [hr] at hb ⊢
   obtain ⟨y,n',b'⟩:=r
   rcases hb with ⟨e1,e2⟩|e1
   ·simp only at e1 e2
    subst e1
    exact lop_all hk h2 (fun m=>psr_all h0 h1 h2 h3 f (k+1) m (by omega) (by omega)) _ _ _ e2
   ·simp only at e1
    rw [lop_pos e1];exact .inr e1
end
def cntX (x:Sx):Nat:=cnt x.1 x.2
theorem cntX_mk2 (s:ByteArray) (x y:Sx):cntX (mk2 s x y)=cntX x+(cntX y+0)+1:=foldS_mk2 (fun (_ _:Int) (_:ByteArray) (l:List Nat)=>l.sum+1) s x y
structure Fine (x:Sx):Prop where
 cl:ClX x
 sd:sdC x.1 x.2=true
 pl:plC x.1 x.2=true
 sh:shrt 1000 x.1 x.2=true
theorem lv_opr {s:List UInt8}(h:lv s≠0):opr ⟨s.toArray⟩=true/\s.length<=2:=by
 have:=lv_opB h
 rcases this with rfl|rfl|rfl|rfl|rfl|rfl|rfl|rfl|rfl<;>exact ⟨by decide,by decide⟩
theorem nx4 {l:List UInt8}(h:l≠[]):(nx l).2<=4:=by
 rw [nx_size h,decodeL_N]
 generalize (l.getD 0 0).toNat=b0
 generalize (l.getD 1 0).toNat=b1
 generalize (l.getD 2 0).toNat=b2
 generalize (l.getD 3 0).toNat=b3
 generalize l.length=n
 unfold decodeN
 repeat' split
 all_goals simp
theorem rune4:∀ (n:Nat) (l:List UInt8),l.length<=n->∀ v∈runes l,v.2.length<=4
 | 0,l,h,v,hv=>by
  have:l=[]:=List.eq_nil_of_length_eq_zero (by omega)
  subst this;cases hv
 | n+1,l,h,v,hv=>by
  by_cases hl:l=[]
  ·subst hl;rw [runes_nil] at hv;cases hv
  ·have h1:=nx_pos hl
   have h4:=nx4 hl
   rw [runes_cons hl] at hv
   rcases List.mem_cons.1 hv with rfl|hv
   ·rw [List.length_take];omega
   ·exact rune4 n _ (by rw [List.length_drop];omega) v hv
theorem byt4:∀ (vs:List Ru),(∀ v∈vs,v.2.length<=4)->(byt vs).length<=4*vs.length
 | [],_=>by simp [byt]
 | v :: r,h=>by
  have h1:=h v (by simp)
  have h2:=byt4 r (fun x hx=>h x (by simp [hx]))
  rw [byt_cons,List.length_append,List.length_cons];omega
theorem name_len {b:List UInt8}(h:nameS b=true):b.length<=96:=by
 unfold nameS at h
 simp only [Bool.and_eq_true,decide_eq_true_eq,beq_iff_eq] at h
 have h1:spb b<=4*((runes b).take (spn (runes b))).length:=byt4 _ (fun v hv=>rune4 _ b Nat.le.refl v (List.mem_of_mem_take hv))
 rw [List.length_take] at h1
 omega
theorem num_len {b:List UInt8}(h:numB b=true):b.length<=10/\0<=valB 0 b/\valB 0 b<=1000000000:=by
 unfold numB at h
 simp only [Bool.and_eq_true,decide_eq_true_eq] at h
 have hv:∀ (b:List UInt8) (n:Int),0<=n->b.all dB=true->0<=valB n b:=fun b=>by
  induction b with
  | nil=>intro n hn _;exact hn
  | cons c r ih=>
   intro n hn hb
   simp only [List.all_cons,Bool.and_eq_true] at hb
   have hd:48<=c.toNat/\c.toNat<=57:=of_decide_eq_true hb.1
   exact ih _ (by omega) hb.2
 refine ⟨?_,?_,?_⟩
 all_goals first|omega|exact hv b 0 (by omega) (by simp_all)|simp_all
theorem fine_read {l:List Wd}(h:∀ w∈l,OneW w.1 w.2.1) (f k n:Nat) (hk:1<=k) (hk6:k<=6):BadOr (fun n n' x=>Fine x/\n+cntX x<=n') n (psr (valB 0) rsvB (l.map tkW) f k n (-1)):=by
 refine psr_all (fun n w x hw0 hx=>⟨?_,?_⟩) (fun n n' k x hk hq=>⟨?_,?_⟩) (fun n m n' w x y hw0 hne hq hq'=>⟨?_,?_⟩) (fun n n' x hq=>⟨hq.1,by have:=hq.2;omega⟩) f k n hk hk6
 ·have hw:=List.mem_of_getElem? hw0
  obtain ⟨u,hu,rfl⟩:=List.mem_map.1 hw
  unfold leafY tkW at hx
  simp only at hx
  by_cases h2:u.1=2
  ·rw [if_pos h2] at hx
   obtain rfl:=Option.some.inj hx
   have hn:numB (byt u.2.1)=true:=by
    rcases (h u hu).kind with ⟨a,_⟩|⟨_,b⟩|⟨a,_⟩
    ·omega
    ·exact b
    ·omega
   obtain ⟨_,a,b⟩:=num_len hn
   refine ⟨.inl ⟨rfl,rfl,rfl⟩,?_,rfl,by rfl⟩
   show (decide (0<=valB 0 (byt u.2.1)) && decide (valB 0 (byt u.2.1)<=1000000000))=true
   rw [decide_eq_true a,decide_eq_true b];rfl
  ·rw [if_neg h2] at hx
   by_cases h1:u.1=1/\rsvB (byt u.2.1)=false
   ·rw [if_pos h1] at hx
    obtain rfl:=Option.some.inj hx
    have hn:nameS (byt u.2.1)=true:=by
     rcases (h u hu).kind with ⟨_,b⟩|⟨a,_⟩|⟨a,_⟩
     ·exact b
     ·omega
     ·omega
    have hl:=name_len hn
    refine ⟨.inr (.inl ⟨rfl,rfl,rfl⟩),?_,?_,?_⟩
    ·show nameS (bl ⟨(byt u.2.1).toArray⟩)=true
     exact hn
    ·show (!(decide ((2:Int)=2) && rsvB (byt u.2.1)) && [].all id)=true
     rw [h1.2];rfl
    ·show (decide ((byt u.2.1).toArray.size<=1000) && [].all id)=true
     rw [decide_eq_true (by simp;omega)];rfl
   ·rw [if_neg h1] at hx;cases hx
 ·unfold leafY at hx
  have:cntX x=1:=by
   split at hx
   ·obtain rfl:=Option.some.inj hx;rfl
   ·split at hx
    ·obtain rfl:=Option.some.inj hx;rfl
    ·cases hx
  omega
 ·have hx:=hq.1
  refine ⟨cl_mk1 hk hx.cl,?_,?_,?_⟩
  ·have:sdC (mk1 k x).1 (mk1 k x).2=true:=by
    show sdC (x.1+1) (mkT k 0 ⟨#[]⟩ [x.2])=true
    rw [sdC_mk,if_neg (by omega),if_neg (by omega),if_pos hk]
    simp [hx.sd]
   exact this
  ·show plC (x.1+1) (mkT k 0 ⟨#[]⟩ [x.2])=true
   rw [plC_mk,decide_eq_false (by omega:¬ k=2)]
   simp [hx.pl]
  ·show shrt 1000 (x.1+1) (mkT k 0 ⟨#[]⟩ [x.2])=true
   rw [shrt_mk,size0]
   simp [hx.sh]
 ·have e:cntX (mk1 k x)=cntX x+0+1:=rfl
  have:=hq.2
  omega
 ·have hx:=hq.1
  have hy:=hq'.1
  obtain ⟨ho,hl2⟩:=lv_opr hne
  refine ⟨cl_mk2 hx.cl hy.cl,?_,?_,?_⟩
  ·have:=foldS_mk2 (fun (k n:Int) (s:ByteArray) (l:List Bool)=>if k=1 then decide (0<=n) && decide (n<=1000000000) else if k=2 then nameS (bl s) else if k=3∨k=4 then l.all id else if k=5 then opr s && l.all id else false) ⟨w.2.toArray⟩ x y
   refine Eq.trans this ?_
   rw [if_neg (by decide),if_neg (by decide),if_neg (by decide),if_pos rfl,ho]
   show (true && (sdC x.1 x.2 && (sdC y.1 y.2 && true)))=true
   rw [hx.sd,hy.sd];rfl
  ·have:=foldS_mk2 (fun (k _:Int) (s:ByteArray) (l:List Bool)=>!(decide (k=2) && rsvB s.data.toList) && l.all id) ⟨w.2.toArray⟩ x y
   refine Eq.trans this ?_
   show (!(false && _) && (plC x.1 x.2 && (plC y.1 y.2 && true)))=true
   rw [hx.pl,hy.pl];rfl
  ·have:=foldS_mk2 (fun (_ _:Int) (s:ByteArray) (l:List Bool)=>decide (s.size<=1000) && l.all id) ⟨w.2.toArray⟩ x y
   refine Eq.trans this ?_
   show (decide ((w.2.toArray).size<=1000) && (shrt 1000 x.1 x.2 && (shrt 1000 y.1 y.2 && true)))=true
   rw [hx.sh,hy.sh,decide_eq_true (by simp;omega)];rfl
 ·have h1:=hq.2
  have h2:=hq'.2
  rw [cntX_mk2]
  omega
section
variable {nb:List UInt8->Int}{rsv:List UInt8->Bool}{l:List Tk}
theorem psr_up (f k n:Nat) (hk:1<=k) (hk6:k<=6):BadOr (fun n n' _=>n < n') n (psr nb rsv l f k n (-1)):=
 psr_all (fun n w x _ _=>Nat.lt_succ_self n) (fun n n' k x _ h=>by omega) (fun n m n' w x y _ _ h h'=>by omega) (fun n n' x h=>by omega) f k n hk hk6
theorem lop_same {next next':Nat->Int->Rd3}{k n0:Nat}(hN:∀ n,n0<=n->n < l.length->next (n+1) (-1)=next' (n+1) (-1)) (hU:∀ n,BadOr (fun n n' _=>n < n') n (next n (-1))):∀ (G n:Nat) (x:Sx),n0<=n->lop l next k G (x,n,-1)=lop l next' k G (x,n,-1)
 | 0,n,x,_=>rfl
 | G+1,n,x,h=>by
  unfold lop
  cases hw:l[n]? with
  | none=>rfl
  | some w=>
   have hlt:=(List.getElem?_eq_some_iff.1 hw).1
   simp only
   rw [hN n h hlt]
   by_cases hc:(-1:Int) < 0/\lv w.2=k
   ·rw [if_pos hc,if_pos hc]
    by_cases h3:k=3
    ·rw [if_pos h3,if_pos h3]
    ·rw [if_neg h3,if_neg h3]
     obtain ⟨r,hr⟩:∃ r,next' (n+1) (-1)=r:=⟨_,rfl⟩
     have hb:=hU (n+1)
     rw [hN n h hlt,hr] at hb
     rw [hr]
     obtain ⟨y,n',b'⟩:=r
     rcases hb with ⟨e1,e2⟩|e1
     ·simp only at e1 e2
      subst e1
      exact lop_same hN hU G n' _ (by omega)
     ·simp only at e1
      rw [lop_pos e1,lop_pos e1]
   ·rw [if_neg hc,if_neg hc]
theorem psr_lev {f k n:Nat}{b:Int}(h:¬ k=6):psr nb rsv l (f+1) k n b=lop l (psr nb rsv l f (k+1)) k l.length (psr nb rsv l f (k+1) n b):=by rw [psr,if_neg h]
theorem psr_more:∀ (f k n:Nat),1<=k->k<=6->7*(l.length - n)+(6 - k) < f->psr nb rsv l (f+1) k n (-1)=psr nb rsv l f k n (-1)
 | 0,k,n,_,_,h=>absurd h (Nat.not_lt_zero _)
 | f+1,k,n,hk,hk6,h=>by
  by_cases h6:k=6
  ·subst h6
   cases hw:l[n]? with
   | none=>rw [psr6_end hw,psr6_end hw]
   | some w=>
    have hlt:=(List.getElem?_eq_some_iff.1 hw).1
    by_cases hu:w.2=[33]∨w.2=[45]
    ·rw [psr6_un hw hu,psr6_un hw hu,psr_more f 6 (n+1) (by omega) (by omega) (by omega)]
    ·by_cases h40:w.2=[40]
     ·rw [psr6_par hw h40,psr6_par hw h40,psr_more f 1 (n+1) (by omega) (by omega) (by omega)]
     ·rw [psr6_leaf hw hu h40,psr6_leaf hw hu h40]
  ·rw [psr_lev h6,psr_lev h6,psr_more f (k+1) n (by omega) (by omega) (by omega)]
   obtain ⟨r,hr⟩:∃ r,psr nb rsv l f (k+1) n (-1)=r:=⟨_,rfl⟩
   have hb:=psr_up (nb:=nb) (rsv:=rsv) (l:=l) f (k+1) n (by omega) (by omega)
   rw [hr] at hb ⊢
   obtain ⟨y,n',b'⟩:=r
   rcases hb with ⟨e1,e2⟩|e1
   ·simp only at e1 e2
    subst e1
    exact lop_same (n0:=n) (fun m hm hml=>psr_more f (k+1) (m+1) (by omega) (by omega) (by omega)) (fun m=>psr_up (f+1) (k+1) m (by omega) (by omega)) _ _ _ (by omega)
   ·simp only at e1
    rw [lop_pos e1,lop_pos e1]
theorem psr_same {k n f:Nat}(hk:1<=k) (hk6:k<=6) (h:7*(l.length - n)+(6 - k) < f):∀ j,psr nb rsv l (f+j) k n (-1)=psr nb rsv l f k n (-1)
 | 0=>rfl
 | j+1=>(psr_more (f+j) k n hk hk6 (by omega)).trans (psr_same hk hk6 h j)
end
def fmX (x:Sx):Bool:=fmC x.1 x.2
def rdC (l:List Tk):Rd3:=psr (valB 0) rsvB l (7*l.length+6) 1 0 (-1)
def takeC (l:List Tk):Sx × Nat × Int:=if 0<=(rdC l).2.2 then (noX,(rdC l).2.2.toNat,12) else if fmX (rdC l).1=true then ((rdC l).1,(rdC l).2.1,0) else (noX,0,13)
theorem Alk.fm {x:Sx}{d:Nat}{t:T d}(h:Alk x t):fmX x=fmC d t:=by
 unfold fmX fmC
 have h1:ndC x.1 x.2=ndC d t:=h.1 _ _
 have h2:dpC x.1 x.2=dpC d t:=h.1 _ _
 have h3:sdC x.1 x.2=sdC d t:=h.1 _ _
 rw [h1,h2,h3]
theorem aroP_len (c:Nat × List Pc) (m:Nat):(txP (aroP c m)).length<=(txP c.2).length+2:=by
 unfold aroP;split
 ·rw [txP_cons,txP_app,List.length_append,List.length_append]
  show 1+(_+1)<=_
  omega
 ·omega
theorem op_len {s:List UInt8}(h:opB s):s.length<=2:=by
 rcases h with rfl|rfl|rfl|rfl|rfl|rfl|rfl|rfl|rfl<;>decide
theorem pcs_len:∀ (d:Nat) (t:T d),Cl d t->rtT dcN d t->(txP (pcs dcN d t).2).length<=100*cnt d t
 | 0,t,_,_=>Empty.elim t
 | d+1,t,hc,hr=>by
  rcases hc.cases with ⟨n,rfl⟩|⟨s,rfl⟩|⟨k,p,hk,rfl,hp⟩|⟨s,p,q,rfl,hp,hq⟩|rfl
  ·have hn:numB (dcN n)=true:=hr.1 rfl
   have:=(num_len hn).1
   show (dcN n++[]).length<=100*1
   rw [List.append_nil];omega
  ·have hn:nameS s.data.toList=true:=hr.2.1 rfl
   have:=name_len hn
   show (s.data.toList++[]).length<=100*1
   rw [List.append_nil];omega
  ·have hrp:rtT dcN d p:=by
    have h2:∀ z∈[fold (rtF dcN) d p],z:=hr.2.2.2.2
    exact h2 (fold (rtF dcN) d p) List.mem_cons_self
   have ih:=pcs_len d p hp hrp
   have ha:=aroP_len (pcs dcN d p) 6
   have e:(txP (pcs dcN (d+1) (mkT k 0 ⟨#[]⟩ [p]:T (d+1))).2).length=(txP (aroP (pcs dcN d p) 6)).length+1:=by rcases hk with rfl|rfl<;>rfl
   rw [e,cnt_mk]
   show _<=100*(cnt d p+0+1)
   omega
  ·have h2:∀ z∈[fold (rtF dcN) d p,fold (rtF dcN) d q],z:=hr.2.2.2.2
   have ho:s.data.toList.length<=2:=op_len (hr.2.2.1 rfl:opB s.data.toList)
   have i1:=pcs_len d p hp (h2 (fold (rtF dcN) d p) List.mem_cons_self)
   have i2:=pcs_len d q hq (h2 (fold (rtF dcN) d q) (List.mem_cons_of_mem _ List.mem_cons_self))
   have a1:=aroP_len (pcs dcN d p) (if lv s.data.toList=3 then 4 else lv s.data.toList)
   have a2:=aroP_len (pcs dcN d q) (lv s.data.toList+1)
   have e:(pcs dcN (d+1) (mkT 5 0 s [p,q]:T (d+1))).2=aroP (pcs dcN d p) (if lv s.data.toList=3 then 4 else lv s.data.toList)++none :: some (3,s.data.toList) :: none :: aroP (pcs dcN d q) (lv s.data.toList+1):=rfl
   rw [e,cnt_mk,txP_app,txP_cons,txP_cons,txP_cons,List.length_append,List.length_append,List.length_append,List.length_append]
   show _+(1+(s.data.toList.length+(1+_)))<=100*(cnt d p+(cnt d q+0)+1)
   omega
  ·have:(1:Int)<=0/\(0:Int)<=5:=hr.2.2.2.1
   omega
theorem nd_cnt:∀ (d:Nat) (t:T d),ndC d t=min (cnt d t) 41
 | 0,t=>Empty.elim t
 | d+1,t=>by
  obtain ⟨k,n,s,ps,rfl⟩:=T.open t
  rw [ndC_mk,cnt_mk]
  have:∀ l:List (T d),min ((l.map (ndC d)).sum+1) 41=min ((l.map (cnt d)).sum+1) 41:=fun l=>by
   induction l with
   | nil=>rfl
   | cons p r ih=>
    have:=nd_cnt d p
    simp only [List.map_cons,List.sum_cons]
    omega
  exact this ps
theorem fm_parts {d:Nat}{t:T d}(h:fmC d t=true):cnt d t<=40/\sdC d t=true:=by
 unfold fmC at h
 simp only [Bool.and_eq_true,decide_eq_true_eq] at h
 have:=nd_cnt d t
 exact ⟨by omega,h.2⟩
def txtC (d:Nat) (t:T d):List UInt8:=txP (pcs dcN d t).2
theorem er_words {l:List UInt8}{ts:List Tk}(h:er (wordsS l)=(ts.map (fun w=>(w.1,runes w.2)),0)):(wordsS l).2.2=0/\(wordsS l).1.map tkW=ts:=by
 refine ⟨congrArg Prod.snd h,?_⟩
 have h1:(wordsS l).1.map (fun w=>(w.1,w.2.1))=ts.map (fun w=>(w.1,runes w.2)):=congrArg Prod.fst h
 have h2:=congrArg (List.map (fun x:Nat × List Ru=>(x.1,byt x.2))) h1
 rw [List.map_map,List.map_map] at h2
 have e:ts.map ((fun x:Nat × List Ru=>(x.1,byt x.2)) ∘ fun w=>(w.1,runes w.2))=ts:=by
  have:∀ w∈ts,((fun x:Nat × List Ru=>(x.1,byt x.2)) ∘ fun w:Tk=>(w.1,runes w.2)) w=id w:=fun w _=>by
   show (w.1,byt (runes w.2))=w
   rw [byt_runes _ _ Nat.le.refl]
  rw [List.map_congr_left this,List.map_id]
 rw [e] at h2
 exact h2
theorem pLevel_any (s:ByteArray) (w:World):Calls Tryz.prog 277 #[.string s] w fun e w'=>e=.returned (.int .i64 (lv (bl s):Int))/\w=w':=by
 have hS:∀ x,(s.toList == x)=(bl s == x):=fun x=>by rw [ByteArray.toList_eq]
 obtain ⟨l,hl⟩:∃ l,bl s=l:=⟨_,rfl⟩
 rw [hl]
 simp only [hl] at hS
 clear hl
 have q0:(s.toList == [124,124])=(l == [124,124]):=hS _
 have q1:(s.toList == [38,38])=(l == [38,38]):=hS _
 have q2:(s.toList == [60])=(l == [60]):=hS _
 have q3:(s.toList == [60,61])=(l == [60,61]):=hS _
 have q4:(s.toList == [61,61])=(l == [61,61]):=hS _
 have q5:(s.toList == [33,61])=(l == [33,61]):=hS _
 have q6:(s.toList == [43])=(l == [43]):=hS _
 have q7:(s.toList == [45])=(l == [45]):=hS _
 have q8:(s.toList == [42])=(l == [42]):=hS _
 clear hS
 cases r0:(l == [124,124])
 case true=>rw [r0] at q0;clear q1 q2 q3 q4 q5 q6 q7 q8;go_enter Tryz.func277,Tryz.ntmps277;go_wp2;go_ret;exact ⟨by rw [eq_of_beq r0];rfl,rfl⟩
 rw [r0] at q0
 cases r1:(l == [38,38])
 case true=>rw [r1] at q1;clear q2 q3 q4 q5 q6 q7 q8;go_enter Tryz.func277,Tryz.ntmps277;go_wp2;go_ret;exact ⟨by rw [eq_of_beq r1];rfl,rfl⟩
 rw [r1] at q1
 cases r2:(l == [60])
 case true=>rw [r2] at q2;clear q3 q4 q5 q6 q7 q8;go_enter Tryz.func277,Tryz.ntmps277;go_wp2;go_ret;exact ⟨by rw [eq_of_beq r2];rfl,rfl⟩
 rw [r2] at q2
 cases r3:(l == [60,61])
 case true=>rw [r3] at q3;clear q4 q5 q6 q7 q8;go_enter Tryz.func277,Tryz.ntmps277;go_wp2;go_ret;exact ⟨by rw [eq_of_beq r3];rfl,rfl⟩
 rw [r3] at q3
 cases r4:(l == [61,61])
 case true=>rw [r4] at q4;clear q5 q6 q7 q8;go_enter Tryz.func277,Tryz.ntmps277;go_wp2;go_ret;exact ⟨by rw [eq_of_beq r4];rfl,rfl⟩
 rw [r4] at q4
 cases r5:(l == [33,61])
 case true=>rw [r5] at q5;clear q6 q7 q8;go_enter Tryz.func277,Tryz.ntmps277;go_wp2;go_ret;exact ⟨by rw [eq_of_beq r5];rfl,rfl⟩
 rw [r5] at q5
 cases r6:(l == [43])
 case true=>rw [r6] at q6;clear q7 q8;go_enter Tryz.func277,Tryz.ntmps277;go_wp2;go_ret;exact ⟨by rw [eq_of_beq r6];rfl,rfl⟩
 rw [r6] at q6
 cases r7:(l == [45])
 case true=>rw [r7] at q7;clear q8;go_enter Tryz.func277,Tryz.ntmps277;go_wp2;go_ret;exact ⟨by rw [eq_of_beq r7];rfl,rfl⟩
 rw [r7] at q7
 cases r8:(l == [42])
 case true=>rw [r8] at q8;go_enter Tryz.func277,Tryz.ntmps277;go_wp2;go_ret;exact ⟨by rw [eq_of_beq r8];rfl,rfl⟩
 rw [r8] at q8
 go_enter Tryz.func277,Tryz.ntmps277
 go_wp2
 go_ret
 have e:lv l=0:=by simp [lv,beq_eq_false_iff_ne.1 r0,beq_eq_false_iff_ne.1 r1,beq_eq_false_iff_ne.1 r2,beq_eq_false_iff_ne.1 r3,beq_eq_false_iff_ne.1 r4,beq_eq_false_iff_ne.1 r5,beq_eq_false_iff_ne.1 r6,beq_eq_false_iff_ne.1 r7,beq_eq_false_iff_ne.1 r8]
 exact ⟨by rw [e];rfl,rfl⟩
theorem pReserved_any (s:ByteArray) (w:World):Calls Tryz.prog 90 #[.string s] w fun e w'=>e=.returned (.bool (rsvB (bl s)))/\w=w':=by
 have hS:∀ x,(s.toList == x)=(bl s == x):=fun x=>by rw [ByteArray.toList_eq]
 obtain ⟨l,hl⟩:∃ l,bl s=l:=⟨_,rfl⟩
 rw [hl]
 simp only [hl] at hS
 clear hl
 have q0:(s.toList == [99,104,97,114,116])=(l == [99,104,97,114,116]):=hS _
 have q1:(s.toList == [118,97,114])=(l == [118,97,114]):=hS _
 have q2:(s.toList == [115,116,97,116,101])=(l == [115,116,97,116,101]):=hS _
 have q3:(s.toList == [97,108,108])=(l == [97,108,108]):=hS _
 have q4:(s.toList == [101,110,100])=(l == [101,110,100]):=hS _
 have q5:(s.toList == [100,111])=(l == [100,111]):=hS _
 have q6:(s.toList == [117,110,100,111])=(l == [117,110,100,111]):=hS _
 have q7:(s.toList == [97,116])=(l == [97,116]):=hS _
 have q8:(s.toList == [114,101,116,114,105,101,115])=(l == [114,101,116,114,105,101,115]):=hS _
 have q9:(s.toList == [111,110])=(l == [111,110]):=hS _
 have q10:(s.toList == [105,102])=(l == [105,102]):=hS _
 have q11:(s.toList == [103,111])=(l == [103,111]):=hS _
 have q12:(s.toList == [115,101,116])=(l == [115,101,116]):=hS _
 clear hS
 cases r0:(l == [99,104,97,114,116])
 case true=>rw [r0] at q0;clear q1 q2 q3 q4 q5 q6 q7 q8 q9 q10 q11 q12;go_enter Tryz.func90,Tryz.ntmps90;go_wp2;go_ret;exact ⟨by rw [eq_of_beq r0];rfl,rfl⟩
 rw [r0] at q0
 cases r1:(l == [118,97,114])
 case true=>rw [r1] at q1;clear q2 q3 q4 q5 q6 q7 q8 q9 q10 q11 q12;go_enter Tryz.func90,Tryz.ntmps90;go_wp2;go_ret;exact ⟨by rw [eq_of_beq r1];rfl,rfl⟩
 rw [r1] at q1
 cases r2:(l == [115,116,97,116,101])
 case true=>rw [r2] at q2;clear q3 q4 q5 q6 q7 q8 q9 q10 q11 q12;go_enter Tryz.func90,Tryz.ntmps90;go_wp2;go_ret;exact ⟨by rw [eq_of_beq r2];rfl,rfl⟩
 rw [r2] at q2
 cases r3:(l == [97,108,108])
 case true=>rw [r3] at q3;clear q4 q5 q6 q7 q8 q9 q10 q11 q12;go_enter Tryz.func90,Tryz.ntmps90;go_wp2;go_ret;exact ⟨by rw [eq_of_beq r3];rfl,rfl⟩
 rw [r3] at q3
 cases r4:(l == [101,110,100])
 case true=>rw [r4] at q4;clear q5 q6 q7 q8 q9 q10 q11 q12;go_enter Tryz.func90,Tryz.ntmps90;go_wp2;go_ret;exact ⟨by rw [eq_of_beq r4];rfl,rfl⟩
 rw [r4] at q4
 cases r5:(l == [100,111])
 case true=>rw [r5] at q5;clear q6 q7 q8 q9 q10 q11 q12;go_enter Tryz.func90,Tryz.ntmps90;go_wp2;go_ret;exact ⟨by rw [eq_of_beq r5];rfl,rfl⟩
 rw [r5] at q5
 cases r6:(l == [117,110,100,111])
 case true=>rw [r6] at q6;clear q7 q8 q9 q10 q11 q12;go_enter Tryz.func90,Tryz.ntmps90;go_wp2;go_ret;exact ⟨by rw [eq_of_beq r6];rfl,rfl⟩
 rw [r6] at q6
 cases r7:(l == [97,116])
 case true=>rw [r7] at q7;clear q8 q9 q10 q11 q12;go_enter Tryz.func90,Tryz.ntmps90;go_wp2;go_ret;exact ⟨by rw [eq_of_beq r7];rfl,rfl⟩
 rw [r7] at q7
 cases r8:(l == [114,101,116,114,105,101,115])
 case true=>rw [r8] at q8;clear q9 q10 q11 q12;go_enter Tryz.func90,Tryz.ntmps90;go_wp2;go_ret;exact ⟨by rw [eq_of_beq r8];rfl,rfl⟩
 rw [r8] at q8
 cases r9:(l == [111,110])
 case true=>rw [r9] at q9;clear q10 q11 q12;go_enter Tryz.func90,Tryz.ntmps90;go_wp2;go_ret;exact ⟨by rw [eq_of_beq r9];rfl,rfl⟩
 rw [r9] at q9
 cases r10:(l == [105,102])
 case true=>rw [r10] at q10;clear q11 q12;go_enter Tryz.func90,Tryz.ntmps90;go_wp2;go_ret;exact ⟨by rw [eq_of_beq r10];rfl,rfl⟩
 rw [r10] at q10
 cases r11:(l == [103,111])
 case true=>rw [r11] at q11;clear q12;go_enter Tryz.func90,Tryz.ntmps90;go_wp2;go_ret;exact ⟨by rw [eq_of_beq r11];rfl,rfl⟩
 rw [r11] at q11
 cases r12:(l == [115,101,116])
 case true=>rw [r12] at q12;go_enter Tryz.func90,Tryz.ntmps90;go_wp2;go_ret;exact ⟨by rw [eq_of_beq r12];rfl,rfl⟩
 rw [r12] at q12
 go_enter Tryz.func90,Tryz.ntmps90
 go_wp2
 go_ret
 have e:rsvB l=false:=by simp [rsvB,rsv13,beq_eq_false_iff_ne.1 r0,beq_eq_false_iff_ne.1 r1,beq_eq_false_iff_ne.1 r2,beq_eq_false_iff_ne.1 r3,beq_eq_false_iff_ne.1 r4,beq_eq_false_iff_ne.1 r5,beq_eq_false_iff_ne.1 r6,beq_eq_false_iff_ne.1 r7,beq_eq_false_iff_ne.1 r8,beq_eq_false_iff_ne.1 r9,beq_eq_false_iff_ne.1 r10,beq_eq_false_iff_ne.1 r11,beq_eq_false_iff_ne.1 r12]
 exact ⟨by rw [e];rfl,rfl⟩
theorem RdS.at' {w:World}{v:Value}{ls:List ByteArray}(h:RdS w v ls):∃ a cap,v=.slice a ls.length cap/\ls.length<=maxLen/\∀ (i:Nat) (hi:i < ls.length),∃ g,a=some ⟨g,0,none⟩/\w.cell? ⟨g,i,none⟩=some (.string ls[i]):=by
 rcases h.form with ⟨rfl,rfl⟩|⟨g,cap,rfl,h1,h2,h3⟩
 ·exact ⟨none,0,rfl,by simp [maxLen],fun i hi=>by simp at hi⟩
 ·exact ⟨_,_,rfl,by omega,fun i hi=>⟨g,rfl,h3 i hi⟩⟩
theorem idx_any {w:World}{v:Value}{ls:List ByteArray}(h:RdS w v ls) :
  Calls Tryz.prog 249 #[v,.func (.func 90) #[] #[]] w fun e w'=>∃ i:Int,e=.returned (.int .i64 i)/\decide (0<=i)=ls.any (fun s=>rsvB (bl s))/\w'=w:=by
 obtain ⟨a,cap,rfl,hm,hc⟩:=h.at'
 clear h
 unfold maxLen at hm
 obtain ⟨n,hn⟩:∃ n,ls.length=n:=⟨_,rfl⟩
 rw [hn] at hm ⊢
 go_enter Tryz.func249,Tryz.ntmps249
 go_wp2
 go_loopg [5,8] n (fun gg _ s8 wr=>∃ kk:Nat,kk<=n/\n - kk<=gg/\s8=.int .i64 (kk:Int)/\Hid (w=wr)/\Hid (∀ (j:Nat) (hj:j < ls.length),j < kk->rsvB (bl ls[j])=false))
 case atStart=>exact ⟨0,Nat.zero_le _,by omega,rfl,rfl,fun j _ hj=>absurd hj (Nat.not_lt_zero _)⟩
 case round=>
  obtain ⟨kk,hkk,hg,rfl,hw,A⟩:=hrel
  obtain rfl:w=wr:=hw
  by_cases hlt:kk < n
  ·have hltz:(kk:Int) < (n:Int):=by omega
   obtain ⟨g,rfl,hcl⟩:=hc kk (by omega)
   have hcall:=pReserved_any ls[kk] w
   obtain ⟨y,hy⟩:∃ y,ls[kk]=y:=⟨_,rfl⟩
   rw [hy] at hcl hcall
   cases hq:rsvB (bl y) with
   | true=>
    rw [hq] at hcall
    go_wp2_with (go_at_call 90;refine hcall.mono ?_;rintro e w' ⟨rfl,rfl⟩)
    go_ret
    refine ⟨_,rfl,?_,rfl⟩
    rw [List.any_eq_true.2 ⟨y,hy ▸ List.getElem_mem _,hq⟩]
    simp
   | false=>
    rw [hq] at hcall
    go_wp2_with (go_at_call 90;refine hcall.mono ?_;rintro e w' ⟨rfl,rfl⟩)
    go_roundg (n - (kk+1))
    case measure=>omega
    case rel=>
     refine ⟨kk+1,by omega,by omega,by go_num,rfl,(show Hid _ from fun j hj hj'=>?_)⟩
     by_cases e:j=kk
     ·subst e;rw [hy];exact hq
     ·exact A j hj (by omega)
  ·have hltz:¬ (kk:Int) < (n:Int):=by omega
   go_wp2
   go_ret
   refine ⟨_,rfl,?_,rfl⟩
   have:ls.any (fun s=>rsvB (bl s))=false:=by
    rw [List.any_eq_false]
    intro x hx
    obtain ⟨j,hj,rfl⟩:=List.mem_iff_getElem.1 hx
    rw [A j hj (by omega)];simp
   rw [this];decide
theorem contains_any {w:World}{v:Value}{ls:List ByteArray}(h:RdS w v ls) :
  Calls Tryz.prog 224 #[v,.func (.func 90) #[] #[]] w fun e w'=>e=.returned (.bool (ls.any (fun s=>rsvB (bl s))))/\w'=w:=by
 have h1:=idx_any h
 obtain ⟨a,cap,rfl,hm,hc⟩:=h.at'
 clear h hc hm
 generalize ls.any (fun s=>rsvB (bl s))=z at h1 ⊢
 go_enter Tryz.func224,Tryz.ntmps224
 go_wp2_with (go_at_call 249;refine h1.mono ?_;rintro e w' ⟨i,rfl,hi,rfl⟩;have hi':Hid (decide (0<=i)=z):=hi;clear hi)
 go_ret
 have hi2:decide (0<=i)=z:=hi'
 simp [<- hi2]
end Go.Proofs.YtfjdceknbdmhpaaGreatDoor
namespace Go.Proofs.YtfjdceknbdmhpaaGreatDoor
open Go.RowKit
set_option linter.unusedSimpArgs false
set_option linter.unusedVariables false
theorem add_plain (b off i:Nat):(⟨b,off,none⟩:Addr).add i=⟨b,off+i,none⟩:=by unfold Addr.add;split<;>simp_all
def RdP {α:Type}(ok:Nat->Prop) (w:World) (R:α->Value->Prop) (l:List α) (v:Value):Prop:=
 ∃ a cap,v=.slice a l.length cap/\l.length<=cap/\cap<=maxLen/\(a=none->l=[])/\
  ∀ x,a=some x->∀ (i:Nat) (h:i < l.length),ok x.block/\∃ c0 c1 c2 c3,R l[i] (.agg #[c0,c1,c2,c3])/\w.cell? (x.add (i*4))=some c0/\w.cell? (x.add (i*4+1))=some c1/\w.cell? (x.add (i*4+2))=some c2/\w.cell? (x.add (i*4+3))=some c3
def RdT (ok:Nat->Prop) (w:World):(d:Nat)->T d->Value->Prop
 | 0,t,_=>Empty.elim t
 | d+1,t,v=>∃ sl,v=.agg #[.int .i64 (show Int × Int × ByteArray × List (T d) from t).1,.int .i64 (show Int × Int × ByteArray × List (T d) from t).2.1,.string (show Int × Int × ByteArray × List (T d) from t).2.2.1,sl]/\RdP ok w (RdT ok w d) (show Int × Int × ByteArray × List (T d) from t).2.2.2 sl
theorem rdT_mk {ok:Nat->Prop}{w:World}{d:Nat}{k n:Int}{s:ByteArray}{ps:List (T d)}{v:Value}:RdT ok w (d+1) (mkT k n s ps) v↔∃ sl,v=.agg #[.int .i64 k,.int .i64 n,.string s,sl]/\RdP ok w (RdT ok w d) ps sl:=Iff.rfl
theorem keep_cell {w w':World}{p:Addr}{u:Value}(h:w'.heap[p.block]?=w.heap[p.block]?) (hc:w.cell? p=some u):w'.cell? p=some u:=by
 unfold World.cell? at hc ⊢
 rw [h]
 exact hc
theorem add_block (x:Addr) (i:Nat):(x.add i).block=x.block:=by unfold Addr.add;split<;>rfl
theorem RdP.keep {α:Type}{ok ok':Nat->Prop}{w w':World}{R R':α->Value->Prop}{l:List α}{v:Value}(h:RdP ok w R l v) (hR:∀ x∈l,∀ u,R x u->R' x u) (hk:∀ b,ok b->b < w.heap.size->ok' b/\w'.heap[b]?=w.heap[b]?):RdP ok' w' R' l v:=by
 obtain ⟨a,cap,rfl,hc,hm,hn,hcell⟩:=h
 refine ⟨a,cap,rfl,hc,hm,hn,fun x hx i hi=>?_⟩
 obtain ⟨ho,c0,c1,c2,c3,h0,h1,h2,h3,h4⟩:=hcell x hx i hi
 have hb:x.block < w.heap.size:=by
  have:=World.block_lt_of_cell? w _ h1
  rw [add_block] at this
  exact this
 obtain ⟨ho',hs⟩:=hk _ ho hb
 have kk:∀ j u,w.cell? (x.add j)=some u->w'.cell? (x.add j)=some u:=fun j u hu=>keep_cell (by rw [add_block];exact hs) hu
 exact ⟨ho',c0,c1,c2,c3,hR _ (List.getElem_mem hi) _ h0,kk _ _ h1,kk _ _ h2,kk _ _ h3,kk _ _ h4⟩
theorem RdT.keep {ok ok':Nat->Prop}{w w':World}(hk:∀ b,ok b->b < w.heap.size->ok' b/\w'.heap[b]?=w.heap[b]?):∀ {d:Nat}{t:T d}{v:Value},RdT ok w d t v->RdT ok' w' d t v
 | 0,t,v,h=>Empty.elim t
 | d+1,t,v,h=>by
  obtain ⟨sl,hv,hp⟩:=h
  exact ⟨sl,hv,hp.keep (fun x _ u hu=>RdT.keep hk hu) hk⟩
theorem RdT.below {ok:Nat->Prop}{w w':World}{B:Nat}(hb:Below B w w') (hB:w.heap.size<=B) {d:Nat}{t:T d}{v:Value}(h:RdT ok w d t v):RdT ok w' d t v:=
 RdT.keep (fun b ho hl=>⟨ho,hb.block b (by omega)⟩) h
theorem RdP.below {ok:Nat->Prop}{w w':World}{d:Nat}{l:List (T d)}{v:Value}{B:Nat}(h:RdP ok w (RdT ok w d) l v) (hb:Below B w w') (hB:w.heap.size<=B):RdP ok w' (RdT ok w' d) l v:=
 h.keep (fun x _ u hu=>RdT.below hb hB hu) (fun b ho hl=>⟨ho,hb.block b (by omega)⟩)
theorem RdP.form {α:Type}{ok:Nat->Prop}{w:World}{R:α->Value->Prop}{l:List α}{v:Value}(h:RdP ok w R l v):∃ a cap,v=.slice a l.length cap/\l.length<=cap/\cap<=9223372036854775807/\
  ∀ (i:Nat) (hi:i < l.length),∃ b off c0 c1 c2 c3,a=some ⟨b,off,none⟩/\b < w.heap.size/\R l[i] (.agg #[c0,c1,c2,c3])/\w.cell? ⟨b,off+i*4,none⟩=some c0/\w.cell? ⟨b,off+i*4+1,none⟩=some c1/\w.cell? ⟨b,off+i*4+2,none⟩=some c2/\w.cell? ⟨b,off+i*4+3,none⟩=some c3:=by
 obtain ⟨a,cap,rfl,hc,hm,hn,hcell⟩:=h
 refine ⟨a,cap,rfl,hc,by unfold maxLen at hm;omega,fun i hi=>?_⟩
 cases a with
 | none=>have:=hn rfl;subst this;simp at hi
 | some x=>
  obtain ⟨b,off,spot⟩:=x
  obtain ⟨_,c0,c1,c2,c3,h0,h1,h2,h3,h4⟩:=hcell _ rfl i hi
  obtain ⟨_,_,_,_,_,_,z1,_⟩:=hcell _ rfl 0 (by omega)
  have hspot:spot=none:=by simpa [Addr.add] using World.cell?_spot z1
  subst hspot
  rw [add_plain] at h1 h2 h3 h4
  exact ⟨b,off,c0,c1,c2,c3,rfl,World.block_lt_of_cell? w _ h1,h0,h1,h2,h3,h4⟩
def At4 (w:World) (X:Nat) (a b c e:Value):Prop:=w.cell? ⟨X,0,none⟩=some a/\w.cell? ⟨X,1,none⟩=some b/\w.cell? ⟨X,2,none⟩=some c/\w.cell? ⟨X,3,none⟩=some e
theorem At4.keepB {w w':World}{X B:Nat}{a b c e:Value}(h:At4 w X a b c e) (hb:Below B w w') (hX:X < B):At4 w' X a b c e:=by
 refine ⟨?_,?_,?_,?_⟩
 ·rw [hb.cell (p:=⟨X,0,none⟩) hX];exact h.1
 ·rw [hb.cell (p:=⟨X,1,none⟩) hX];exact h.2.1
 ·rw [hb.cell (p:=⟨X,2,none⟩) hX];exact h.2.2.1
 ·rw [hb.cell (p:=⟨X,3,none⟩) hX];exact h.2.2.2
theorem At4.new (w:World) (a b c e:Value) (T:TypeId):At4 (w.alloc (.cells #[a,b,c,e] T)) w.heap.size a b c e:=⟨by simp,by simp,by simp,by simp⟩
def exV:(d:Nat)->T d->Value:=fold (fun k n s l=>
 if k=1 then .iface 191 (.agg #[.int .i64 n]) else if k=2 then .iface 193 (.agg #[.string s]) else if k=3 then .iface 195 (.agg #[l.getD 0 .nilIface]) else if k=4 then .iface 196 (.agg #[l.getD 0 .nilIface])
 else if k=5 then .iface 198 (.agg #[.string s,l.getD 0 .nilIface,l.getD 1 .nilIface]) else .nilIface)
def exP {d:Nat}(ps:List (T d)) (i:Nat):Value:=(ps.map (exV d)).getD i .nilIface
theorem exV_mk {d:Nat}(k n:Int) (s:ByteArray) (ps:List (T d)):exV (d+1) (mkT k n s ps) =
  if k=1 then .iface 191 (.agg #[.int .i64 n]) else if k=2 then .iface 193 (.agg #[.string s]) else if k=3 then .iface 195 (.agg #[exP ps 0]) else if k=4 then .iface 196 (.agg #[exP ps 0])
  else if k=5 then .iface 198 (.agg #[.string s,exP ps 0,exP ps 1]) else .nilIface:=rfl
theorem exV_form:∀ (d:Nat) (t:T d),exV d t=.nilIface∨∃ u x,exV d t=.iface u x
 | 0,t=>Empty.elim t
 | d+1,t=>by
  obtain ⟨k,n,s,ps,rfl⟩:=T.open t
  rw [exV_mk]
  repeat' split
  all_goals first|exact .inl rfl|exact .inr ⟨_,_,rfl⟩
theorem exP_form {d:Nat}(ps:List (T d)) (i:Nat):exP ps i=.nilIface∨∃ u x,exP ps i=.iface u x:=by
 unfold exP
 rw [List.getD_eq_getElem?_getD,List.getElem?_map]
 cases ps[i]? with
 | none=>exact .inl rfl
 | some p=>exact exV_form d p
end Go.Proofs.YtfjdceknbdmhpaaGreatDoor
namespace Go.Proofs.YtfjdceknbdmhpaaGreatDoor
open Go.RowKit Go.Lib
set_option linter.unusedSimpArgs false
set_option linter.unusedVariables false
attribute [local go_sem ↓] Go.wp_at_zero Go.wp_at_succ
def Kids (w:World) (v:Value) (l:List Value):Prop:=
 (v=.slice none 0 0/\l=[])∨∃ g,v=.slice (some ⟨g,0,none⟩) l.length l.length/\∀ (i:Nat) (h:i < l.length),w.cell? ⟨g,i,none⟩=some l[i]
abbrev topV (k n:Int) (s:ByteArray) (v:Value):Value:=.agg #[.int .i64 k,.int .i64 n,.string s,v]
def Ifc (x:Value):Prop:=x=.nilIface∨∃ u y,x=.iface u y
theorem as_lit_lit (v:Value) (w:World):(Instr.typeAssert (.iface 191 v) 130 191 true).run Tryz.prog w=.ok (.tuple #[v,.bool true]) w:=by kernel_rfl
theorem as_ref_lit (v:Value) (w:World):(Instr.typeAssert (.iface 193 v) 130 191 true).run Tryz.prog w=.ok (.tuple #[.agg #[.int .i64 0],.bool false]) w:=by kernel_rfl
theorem as_ref_ref (v:Value) (w:World):(Instr.typeAssert (.iface 193 v) 130 193 true).run Tryz.prog w=.ok (.tuple #[v,.bool true]) w:=by kernel_rfl
theorem as_not_lit (v:Value) (w:World):(Instr.typeAssert (.iface 195 v) 130 191 true).run Tryz.prog w=.ok (.tuple #[.agg #[.int .i64 0],.bool false]) w:=by kernel_rfl
theorem as_not_ref (v:Value) (w:World):(Instr.typeAssert (.iface 195 v) 130 193 true).run Tryz.prog w=.ok (.tuple #[.agg #[.string ⟨#[]⟩],.bool false]) w:=by kernel_rfl
theorem as_not_not (v:Value) (w:World):(Instr.typeAssert (.iface 195 v) 130 195 true).run Tryz.prog w=.ok (.tuple #[v,.bool true]) w:=by kernel_rfl
theorem as_neg_lit (v:Value) (w:World):(Instr.typeAssert (.iface 196 v) 130 191 true).run Tryz.prog w=.ok (.tuple #[.agg #[.int .i64 0],.bool false]) w:=by kernel_rfl
theorem as_neg_ref (v:Value) (w:World):(Instr.typeAssert (.iface 196 v) 130 193 true).run Tryz.prog w=.ok (.tuple #[.agg #[.string ⟨#[]⟩],.bool false]) w:=by kernel_rfl
theorem as_neg_not (v:Value) (w:World):(Instr.typeAssert (.iface 196 v) 130 195 true).run Tryz.prog w=.ok (.tuple #[.agg #[.nilIface],.bool false]) w:=by kernel_rfl
theorem as_neg_neg (v:Value) (w:World):(Instr.typeAssert (.iface 196 v) 130 196 true).run Tryz.prog w=.ok (.tuple #[v,.bool true]) w:=by kernel_rfl
theorem as_bin_lit (v:Value) (w:World):(Instr.typeAssert (.iface 198 v) 130 191 true).run Tryz.prog w=.ok (.tuple #[.agg #[.int .i64 0],.bool false]) w:=by kernel_rfl
theorem as_bin_ref (v:Value) (w:World):(Instr.typeAssert (.iface 198 v) 130 193 true).run Tryz.prog w=.ok (.tuple #[.agg #[.string ⟨#[]⟩],.bool false]) w:=by kernel_rfl
theorem as_bin_not (v:Value) (w:World):(Instr.typeAssert (.iface 198 v) 130 195 true).run Tryz.prog w=.ok (.tuple #[.agg #[.nilIface],.bool false]) w:=by kernel_rfl
theorem as_bin_neg (v:Value) (w:World):(Instr.typeAssert (.iface 198 v) 130 196 true).run Tryz.prog w=.ok (.tuple #[.agg #[.nilIface],.bool false]) w:=by kernel_rfl
theorem as_bin_bin (v:Value) (w:World):(Instr.typeAssert (.iface 198 v) 130 198 true).run Tryz.prog w=.ok (.tuple #[v,.bool true]) w:=by kernel_rfl
attribute [local go_sem] as_lit_lit as_ref_lit as_ref_ref as_not_lit as_not_ref as_not_not as_neg_lit as_neg_ref as_neg_not as_neg_neg as_bin_lit as_bin_ref as_bin_not as_bin_neg as_bin_bin
theorem cell1_new (w:World) (a:Value) (t:TypeId) (n:Nat) (hn:n=w.heap.size):(w.alloc (.cells #[a] t)).cell? ⟨n,0,none⟩=some a:=by subst hn;simp
theorem cell2_new (w:World) (a b:Value) (t:TypeId) (n:Nat) (hn:n=w.heap.size):(w.alloc (.cells #[a,b] t)).cell? ⟨n,0,none⟩=some a/\(w.alloc (.cells #[a,b] t)).cell? ⟨n,1,none⟩=some b:=by subst hn;simp
theorem kids0 (w:World):Kids w (.slice none 0 0) []:=.inl ⟨rfl,rfl⟩
theorem kids1 {w:World}{g:Nat}{x:Value}(h:w.cell? ⟨g,0,none⟩=some x):Kids w (.slice (some ⟨g,0,none⟩) 1 1) [x]:=.inr ⟨g,rfl,fun i hi=>by
 match i,hi with
 | 0,_=>exact h⟩
theorem kids2 {w:World}{g:Nat}{x y:Value}(h:w.cell? ⟨g,0,none⟩=some x) (h':w.cell? ⟨g,1,none⟩=some y):Kids w (.slice (some ⟨g,0,none⟩) 2 2) [x,y]:=.inr ⟨g,rfl,fun i hi=>by
 match i,hi with
 | 0,_=>exact h
 | 1,_=>exact h'⟩
theorem Kids.below {w w':World}{v:Value}{l:List Value}{B:Nat}(h:Kids w v l) (hb:Below B w w') (hB:w.heap.size<=B):Kids w' v l:=by
 rcases h with h|⟨g,hv,hc⟩
 ·exact .inl h
 ·exact .inr ⟨g,hv,fun i hi=>by rw [hb.cell (p:=⟨g,i,none⟩) (Nat.lt_of_lt_of_le (World.block_lt_of_cell? w _ (hc i hi)) hB)];exact hc i hi⟩
theorem top_nil (w:World):Calls Tryz.prog 192 #[.nilIface] w fun e w'=>∃ sl,e=.returned (topV 0 0 ⟨#[]⟩ sl)/\Kids w' sl []/\Below w.heap.size w w':=by
 go_enter Tryz.func192,Tryz.ntmps192
 go_wp2
 refine bodyPost_ret (v:=topV 0 0 ⟨#[]⟩ (.slice none 0 0)) (by simp [results,Tryz.results192,go_sem]) rfl ⟨_,rfl,kids0 _,?_⟩
 ·(repeat (refine Below.alloc ?_ (by simp<;>omega) _));exact Below.refl _ _
theorem top_lit (n:Int) (w:World):Calls Tryz.prog 192 #[.iface 191 (.agg #[.int .i64 n])] w fun e w'=>∃ sl,e=.returned (topV 1 n ⟨#[]⟩ sl)/\Kids w' sl []/\Below w.heap.size w w':=by
 go_enter Tryz.func192,Tryz.ntmps192
 go_wp2
 refine bodyPost_ret (v:=topV 1 n ⟨#[]⟩ (.slice none 0 0)) (by simp [results,Tryz.results192,go_sem]) rfl ⟨_,rfl,kids0 _,?_⟩
 ·(repeat (refine Below.alloc ?_ (by simp<;>omega) _));exact Below.refl _ _
theorem top_ref (s:ByteArray) (w:World):Calls Tryz.prog 192 #[.iface 193 (.agg #[.string s])] w fun e w'=>∃ sl,e=.returned (topV 2 0 s sl)/\Kids w' sl []/\Below w.heap.size w w':=by
 go_enter Tryz.func192,Tryz.ntmps192
 go_wp2
 refine bodyPost_ret (v:=topV 2 0 s (.slice none 0 0)) (by simp [results,Tryz.results192,go_sem]) rfl ⟨_,rfl,kids0 _,?_⟩
 ·(repeat (refine Below.alloc ?_ (by simp<;>omega) _));exact Below.refl _ _
theorem top_not (x:Value) (hx:Ifc x) (w:World):Calls Tryz.prog 192 #[.iface 195 (.agg #[x])] w fun e w'=>∃ sl,e=.returned (topV 3 0 ⟨#[]⟩ sl)/\Kids w' sl [x]/\Below w.heap.size w w':=by
 rcases hx with rfl|⟨u,y,rfl⟩
 ·go_enter Tryz.func192,Tryz.ntmps192
  go_wp2
  refine bodyPost_ret (v:=topV 3 0 ⟨#[]⟩ (.slice (some ⟨w.heap.size+4,0,none⟩) 1 1)) (by simp [results,Tryz.results192,go_sem]) rfl ⟨_,rfl,kids1 ?_,?_⟩
  ·exact cell1_new _ _ _ _ (by simp)
  ·(repeat (refine Below.alloc ?_ (by simp<;>omega) _));exact Below.refl _ _
 ·go_enter Tryz.func192,Tryz.ntmps192
  go_wp2
  refine bodyPost_ret (v:=topV 3 0 ⟨#[]⟩ (.slice (some ⟨w.heap.size+4,0,none⟩) 1 1)) (by simp [results,Tryz.results192,go_sem]) rfl ⟨_,rfl,kids1 ?_,?_⟩
  ·exact cell1_new _ _ _ _ (by simp)
  ·(repeat (refine Below.alloc ?_ (by simp<;>omega) _));exact Below.refl _ _
theorem top_neg (x:Value) (hx:Ifc x) (w:World):Calls Tryz.prog 192 #[.iface 196 (.agg #[x])] w fun e w'=>∃ sl,e=.returned (topV 4 0 ⟨#[]⟩ sl)/\Kids w' sl [x]/\Below w.heap.size w w':=by
 rcases hx with rfl|⟨u,y,rfl⟩
 ·go_enter Tryz.func192,Tryz.ntmps192
  go_wp2
  refine bodyPost_ret (v:=topV 4 0 ⟨#[]⟩ (.slice (some ⟨w.heap.size+5,0,none⟩) 1 1)) (by simp [results,Tryz.results192,go_sem]) rfl ⟨_,rfl,kids1 ?_,?_⟩
  ·exact cell1_new _ _ _ _ (by simp)
  ·(repeat (refine Below.alloc ?_ (by simp<;>omega) _));exact Below.refl _ _
 ·go_enter Tryz.func192,Tryz.ntmps192
  go_wp2
  refine bodyPost_ret (v:=topV 4 0 ⟨#[]⟩ (.slice (some ⟨w.heap.size+5,0,none⟩) 1 1)) (by simp [results,Tryz.results192,go_sem]) rfl ⟨_,rfl,kids1 ?_,?_⟩
  ·exact cell1_new _ _ _ _ (by simp)
  ·(repeat (refine Below.alloc ?_ (by simp<;>omega) _));exact Below.refl _ _
theorem top_bin (s:ByteArray) (x x':Value) (hx:Ifc x) (hx':Ifc x') (w:World):Calls Tryz.prog 192 #[.iface 198 (.agg #[.string s,x,x'])] w fun e w'=>∃ sl,e=.returned (topV 5 0 s sl)/\Kids w' sl [x,x']/\Below w.heap.size w w':=by
 rcases hx with rfl|⟨u,y,rfl⟩<;>rcases hx' with rfl|⟨u',y',rfl⟩
 ·go_enter Tryz.func192,Tryz.ntmps192
  go_wp2
  refine bodyPost_ret (v:=topV 5 0 s (.slice (some ⟨w.heap.size+6,0,none⟩) 2 2)) (by simp [results,Tryz.results192,go_sem]) rfl ⟨_,rfl,kids2 ?_ ?_,?_⟩
  ·exact (cell2_new _ _ _ _ _ (by simp)).1
  ·exact (cell2_new _ _ _ _ _ (by simp)).2
  ·(repeat (refine Below.alloc ?_ (by simp<;>omega) _));exact Below.refl _ _
 ·go_enter Tryz.func192,Tryz.ntmps192
  go_wp2
  refine bodyPost_ret (v:=topV 5 0 s (.slice (some ⟨w.heap.size+6,0,none⟩) 2 2)) (by simp [results,Tryz.results192,go_sem]) rfl ⟨_,rfl,kids2 ?_ ?_,?_⟩
  ·exact (cell2_new _ _ _ _ _ (by simp)).1
  ·exact (cell2_new _ _ _ _ _ (by simp)).2
  ·(repeat (refine Below.alloc ?_ (by simp<;>omega) _));exact Below.refl _ _
 ·go_enter Tryz.func192,Tryz.ntmps192
  go_wp2
  refine bodyPost_ret (v:=topV 5 0 s (.slice (some ⟨w.heap.size+6,0,none⟩) 2 2)) (by simp [results,Tryz.results192,go_sem]) rfl ⟨_,rfl,kids2 ?_ ?_,?_⟩
  ·exact (cell2_new _ _ _ _ _ (by simp)).1
  ·exact (cell2_new _ _ _ _ _ (by simp)).2
  ·(repeat (refine Below.alloc ?_ (by simp<;>omega) _));exact Below.refl _ _
 ·go_enter Tryz.func192,Tryz.ntmps192
  go_wp2
  refine bodyPost_ret (v:=topV 5 0 s (.slice (some ⟨w.heap.size+6,0,none⟩) 2 2)) (by simp [results,Tryz.results192,go_sem]) rfl ⟨_,rfl,kids2 ?_ ?_,?_⟩
  ·exact (cell2_new _ _ _ _ _ (by simp)).1
  ·exact (cell2_new _ _ _ _ _ (by simp)).2
  ·(repeat (refine Below.alloc ?_ (by simp<;>omega) _));exact Below.refl _ _
theorem ifc_ex {d:Nat}(t:T d):Ifc (exV d t):=exV_form d t
theorem top_any {d:Nat}{t:T (d+1)}(hc:Cl (d+1) t):∃ k n s ps,t=mkT k n s ps/\∀ w,Calls Tryz.prog 192 #[exV (d+1) t] w fun e w'=>∃ sl,e=.returned (topV k n s sl)/\Kids w' sl (ps.map (exV d))/\Below w.heap.size w w':=by
 rcases hc.cases with ⟨n,rfl⟩|⟨s,rfl⟩|⟨k,p,hk,rfl,hp⟩|⟨s,p,q,rfl,hp,hq⟩|rfl
 ·exact ⟨1,n,_,[],rfl,fun w=>top_lit n w⟩
 ·exact ⟨2,0,s,[],rfl,fun w=>top_ref s w⟩
 ·rcases hk with rfl|rfl
  ·exact ⟨3,0,_,[p],rfl,fun w=>top_not (exV d p) (ifc_ex p) w⟩
  ·exact ⟨4,0,_,[p],rfl,fun w=>top_neg (exV d p) (ifc_ex p) w⟩
 ·exact ⟨5,0,s,[p,q],rfl,fun w=>top_bin s (exV d p) (exV d q) (ifc_ex p) (ifc_ex q) w⟩
 ·exact ⟨0,0,_,[],rfl,fun w=>top_nil w⟩
theorem fld_i (a b c e:Value) (w:World):(Instr.field 244 (.agg #[a,b,c,e]) 3).run Tryz.prog w=.ok e w:=by kernel_rfl
abbrev Sg:=(d:Nat) × T d
def exS (x:Sg):Value:=exV x.1 x.2
def cntS (x:Sg):Nat:=cnt x.1 x.2
def ClS (x:Sg):Prop:=Cl x.1 x.2
def Stk (w:World) (base:Nat) (v:Value) (st:List Sg):Prop:=w.ownsRow base 130 1 v st.length (st.map exS)
theorem own_on {w w':World}{base e size:Nat}{v:Value}{n:Nat}{xs:List Value}{B:Nat}(h:w.ownsRow base e size v n xs) (hb:Below B w w') (hB:w.heap.size<=B):w'.ownsRow base e size v n xs:=by
 refine ⟨h.1,?_⟩
 rcases h.2 with hn|⟨g,cap,cur,rfl,hbg,hg,rest⟩
 ·exact .inl hn
 ·exact .inr ⟨g,cap,cur,rfl,hbg,by rw [hb.block g (by have:=(Array.getElem?_eq_some_iff.1 hg).1;omega)];exact hg,rest⟩
theorem Stk.on {w w':World}{base:Nat}{v:Value}{st:List Sg}{B:Nat}(h:Stk w base v st) (hb:Below B w w') (hB:w.heap.size<=B):Stk w' base v st:=own_on h hb hB
theorem exS_form (x:Sg):exS x=.nilIface∨∃ u y,exS x=.iface u y:=exV_form x.1 x.2
theorem Stk.pop {w:World}{base:Nat}{v:Value}{st:List Sg}{x:Sg}(h:Stk w base v (st++[x])):∃ g cap,v=.slice (some ⟨g,0,none⟩) (st.length+1) cap/\st.length+1<=cap/\cap<=maxLen/\base<=g/\g < w.heap.size/\
  w.cell? ⟨g,st.length,none⟩=some (exS x)/\Stk w base (.slice (some ⟨g,0,none⟩) st.length cap) st:=by
 unfold Stk at h
 rw [List.length_append,List.length_singleton,List.map_append,List.map_singleton] at h
 have hc:=fun g=>World.ownsRow.cells h (g:=g)
 rcases h.2 with ⟨_,h2⟩|⟨g,cap,cur,rfl,hb,hg,hnc,hcm,hcs,htake⟩
 ·omega
 ·have h1:=hc g rfl st.length (exS x) (by simp)
  rw [show (⟨g,0,none⟩:Addr).add st.length=⟨g,st.length,none⟩ by unfold Addr.add;split<;>simp_all] at h1
  refine ⟨g,cap,rfl,hnc,hcm,hb,(Array.getElem?_eq_some_iff.1 hg).1,h1,by simp,.inr ⟨g,cap,cur,rfl,hb,hg,by omega,hcm,hcs,?_⟩⟩
  have h3:=congrArg (List.take st.length) htake
  rw [List.take_take] at h3
  simp only [Nat.mul_one] at h3 ⊢
  rw [Nat.min_eq_left (by omega),List.take_left' (by simp)] at h3
  exact h3
theorem Stk.nil {w:World}{base:Nat}{v:Value}(h:Stk w base v []):∃ a cap,v=.slice a 0 cap:=by
 rcases h.2 with ⟨h1,_⟩|⟨g,cap,cur,rfl,_⟩
 ·exact ⟨_,_,h1⟩
 ·exact ⟨_,_,rfl⟩
theorem Tryz.infoE:(Tryz.prog.info? 130).map (fun i=>(i.zero,i.size,i.bytes))=some (some .nilIface,1,16):=by kernel_rfl
theorem Kids.form {w:World}{sl:Value}{l:List Value}(h:Kids w sl l):∃ a,sl=.slice a l.length l.length:=by
 rcases h with ⟨rfl,rfl⟩|⟨g,rfl,_⟩
 ·exact ⟨_,rfl⟩
 ·exact ⟨_,rfl⟩
theorem Kids.at {w:World}{a:Option Addr}{m c j:Nat}{l:List Value}(h:Kids w (.slice a m c) l) (hj:j < l.length):∃ g,a=some ⟨g,0,none⟩/\w.cell? ⟨g,j,none⟩=some l[j]:=by
 rcases h with ⟨h1,rfl⟩|⟨g,h1,hc⟩
 ·simp at hj
 ·simp only [Value.slice.injEq] at h1
  exact ⟨g,h1.1,hc j hj⟩
theorem Kids.src {w:World}{sl:Value}{l:List Value}(h:Kids w sl l) (hf:∀ v∈l,Ifc v):Src Tryz.prog 1 242 sl l.length l w:=by
 rcases h with ⟨rfl,rfl⟩|⟨g,rfl,hc⟩
 ·exact Src.ofNil w Tryz.underlying242 0
 ·refine Src.ofSlice w Tryz.underlying242 _ _ _ l (by simp) (fun j u hu=>?_) (fun u hu=>?_)
  ·have hj:j < l.length:=(List.getElem?_eq_some_iff.1 hu).1
   rw [List.getElem?_eq_getElem hj] at hu
   rw [show (⟨g,0,none⟩:Addr).add j=⟨g,j,none⟩ by unfold Addr.add;split<;>simp_all,hc j hj,hu]
  ·rcases hf u hu with rfl|⟨t,y,rfl⟩<;>rfl
def kidS {d:Nat}(ps:List (T d)):List Sg:=ps.map (fun p=>⟨d,p⟩)
theorem kidS_ex {d:Nat}(ps:List (T d)):(kidS ps).map exS=ps.map (exV d):=by unfold kidS;rw [List.map_map];rfl
theorem kidS_cnt {d:Nat}(ps:List (T d)):((kidS ps).map cntS).sum=(ps.map (cnt d)).sum:=by unfold kidS;rw [List.map_map];rfl
theorem kidS_len {d:Nat}(ps:List (T d)):(kidS ps).length=ps.length:=by simp [kidS]
theorem Stk.push {w:World}{base:Nat}{v:Value}{st:List Sg}{d:Nat}{ps:List (T d)}{n:Nat}(hn:n=st.length+ps.length) (h:w.ownsRow base 130 1 v n (st.map exS++ps.map (exV d))):Stk w base v (st++kidS ps):=by
 unfold Stk
 rw [List.length_append,List.map_append,kidS_ex,kidS_len,<- hn]
 exact h
theorem ifc_map {d:Nat}(ps:List (T d)):∀ v∈ps.map (exV d),Ifc v:=fun v hv=>by
 obtain ⟨p,_,rfl⟩:=List.mem_map.1 hv
 exact ifc_ex p
theorem Cl.parts {d:Nat}{k n:Int}{s:ByteArray}{ps:List (T d)}(h:Cl (d+1) (mkT k n s ps)):ps.length<=2/\∀ p∈ps,Cl d p:=by
 rcases h with ⟨_,_,h3⟩|⟨_,_,h3⟩|⟨_,_,_,p,h4,h5⟩|⟨_,_,p,q,h3,h4,h5⟩|⟨_,_,_,h4⟩
 ·simp only at h3;subst h3;simp
 ·simp only at h3;subst h3;simp
 ·simp only at h4;subst h4;simpa using h5
 ·simp only at h3;subst h3;simp [h4,h5]
 ·simp only at h4;subst h4;simp
theorem last_of {α:Type}{l:List α}(h:l≠[]):∃ a x,l=a++[x]:=⟨l.dropLast,l.getLast h,(List.dropLast_concat_getLast h).symm⟩
end Go.Proofs.YtfjdceknbdmhpaaGreatDoor
namespace Go.Proofs.YtfjdceknbdmhpaaGreatDoor
open Go.RowKit
set_option linter.unusedSimpArgs false
set_option linter.unusedVariables false
structure B4 (w:World) (X:Nat) (a b c e:Value):Prop where
 c0:w.cell? ⟨X,0,none⟩=some a
 c1:w.cell? ⟨X,1,none⟩=some b
 c2:w.cell? ⟨X,2,none⟩=some c
 c3:w.cell? ⟨X,3,none⟩=some e
 f0:w.frozen? ⟨X,0,none⟩=false
 f1:w.frozen? ⟨X,1,none⟩=false
 f2:w.frozen? ⟨X,2,none⟩=false
 f3:w.frozen? ⟨X,3,none⟩=false
theorem B4.new (w:World) (a b c e:Value) (t:TypeId) (n:Nat) (hn:n=w.heap.size):B4 (w.alloc (.cells #[a,b,c,e] t)) n a b c e:=by
 subst hn
 exact ⟨by simp,by simp,by simp,by simp,by simp,by simp,by simp,by simp⟩
theorem B4.keepB {w w':World}{X B:Nat}{a b c e:Value}(h:B4 w X a b c e) (hb:Below B w w') (hX:X < B):B4 w' X a b c e:=by
 have hc:∀ i,w'.cell? ⟨X,i,none⟩=w.cell? ⟨X,i,none⟩:=fun i=>hb.cell (p:=⟨X,i,none⟩) hX
 have hf:∀ i,w'.frozen? ⟨X,i,none⟩=w.frozen? ⟨X,i,none⟩:=fun i=>hb.frozen (p:=⟨X,i,none⟩) hX
 exact ⟨by rw [hc];exact h.c0,by rw [hc];exact h.c1,by rw [hc];exact h.c2,by rw [hc];exact h.c3,by rw [hf];exact h.f0,by rw [hf];exact h.f1,by rw [hf];exact h.f2,by rw [hf];exact h.f3⟩
theorem B4.lt {w:World}{X:Nat}{a b c e:Value}(h:B4 w X a b c e):X < w.heap.size:=World.block_lt_of_cell? w _ h.c0
theorem B4.keep {w w':World}{X:Nat}{a b c e:Value}(h:B4 w X a b c e) (hb:Below w.heap.size w w'):B4 w' X a b c e:=h.keepB hb h.lt
theorem cell_same4 {w:World}{p:Addr}{u v:Value}(h:w.cell? p=some u):(w.setCell p v).cell? p=some v:=World.cell?_setCell_same' w _ v (by rw [h];rfl)
theorem cell_far4 {w:World}{X i Y j:Nat}{u v:Value}(hne:¬ (X=Y/\i=j)) (h:w.cell? ⟨Y,j,none⟩=some u):(w.setCell ⟨X,i,none⟩ v).cell? ⟨Y,j,none⟩=some u:=
 (World.cell?_setCell_other w ⟨X,i,none⟩ ⟨Y,j,none⟩ v (by simp;intro h1 h2;exact hne ⟨h1,h2⟩)).trans h
theorem B4.far {w:World}{X Y i:Nat}{a b c e:Value}(h:B4 w Y a b c e) (hne:X≠Y) (v:Value):B4 (w.setCell ⟨X,i,none⟩ v) Y a b c e:=
 ⟨cell_far4 (by omega) h.c0,cell_far4 (by omega) h.c1,cell_far4 (by omega) h.c2,cell_far4 (by omega) h.c3,(World.frozen?_setCell _ _ _ _).trans h.f0,(World.frozen?_setCell _ _ _ _).trans h.f1,(World.frozen?_setCell _ _ _ _).trans h.f2,(World.frozen?_setCell _ _ _ _).trans h.f3⟩
theorem B4.set0 {w:World}{X:Nat}{a b c e:Value}(h:B4 w X a b c e) (v:Value):B4 (w.setCell ⟨X,0,none⟩ v) X v b c e:=
 ⟨cell_same4 h.c0,cell_far4 (by omega) h.c1,cell_far4 (by omega) h.c2,cell_far4 (by omega) h.c3,(World.frozen?_setCell _ _ _ _).trans h.f0,(World.frozen?_setCell _ _ _ _).trans h.f1,(World.frozen?_setCell _ _ _ _).trans h.f2,(World.frozen?_setCell _ _ _ _).trans h.f3⟩
theorem B4.set1 {w:World}{X:Nat}{a b c e:Value}(h:B4 w X a b c e) (v:Value):B4 (w.setCell ⟨X,1,none⟩ v) X a v c e:=
 ⟨cell_far4 (by omega) h.c0,cell_same4 h.c1,cell_far4 (by omega) h.c2,cell_far4 (by omega) h.c3,(World.frozen?_setCell _ _ _ _).trans h.f0,(World.frozen?_setCell _ _ _ _).trans h.f1,(World.frozen?_setCell _ _ _ _).trans h.f2,(World.frozen?_setCell _ _ _ _).trans h.f3⟩
theorem B4.set2 {w:World}{X:Nat}{a b c e:Value}(h:B4 w X a b c e) (v:Value):B4 (w.setCell ⟨X,2,none⟩ v) X a b v e:=
 ⟨cell_far4 (by omega) h.c0,cell_far4 (by omega) h.c1,cell_same4 h.c2,cell_far4 (by omega) h.c3,(World.frozen?_setCell _ _ _ _).trans h.f0,(World.frozen?_setCell _ _ _ _).trans h.f1,(World.frozen?_setCell _ _ _ _).trans h.f2,(World.frozen?_setCell _ _ _ _).trans h.f3⟩
theorem B4.set3 {w:World}{X:Nat}{a b c e:Value}(h:B4 w X a b c e) (v:Value):B4 (w.setCell ⟨X,3,none⟩ v) X a b c v:=
 ⟨cell_far4 (by omega) h.c0,cell_far4 (by omega) h.c1,cell_far4 (by omega) h.c2,cell_same4 h.c3,(World.frozen?_setCell _ _ _ _).trans h.f0,(World.frozen?_setCell _ _ _ _).trans h.f1,(World.frozen?_setCell _ _ _ _).trans h.f2,(World.frozen?_setCell _ _ _ _).trans h.f3⟩
abbrev put4 (w:World) (X:Nat) (a b c e:Value):World:=(((w.setCell ⟨X,0,none⟩ a).setCell ⟨X,1,none⟩ b).setCell ⟨X,2,none⟩ c).setCell ⟨X,3,none⟩ e
theorem B4.put {w:World}{X:Nat}{a b c e:Value}(h:B4 w X a b c e) (a' b' c' e':Value):B4 (put4 w X a' b' c' e') X a' b' c' e':=(((h.set0 a').set1 b').set2 c').set3 e'
theorem B4.farPut {w:World}{X Y:Nat}{a b c e:Value}(h:B4 w Y a b c e) (hne:X≠Y) (a' b' c' e':Value):B4 (put4 w X a' b' c' e') Y a b c e:=(((h.far hne a').far hne b').far hne c').far hne e'
theorem below_put {B:Nat}{u w:World}(h:Below B u w) {X:Nat}(hX:B<=X) (a b c e:Value):Below B u (put4 w X a b c e):=(((h.setCell hX _).setCell hX _).setCell hX _).setCell hX _
abbrev Q4:=Value × Value × Value × Value
def celsQ (qs:List Q4):List Value:=qs.flatMap (fun q=>[q.1,q.2.1,q.2.2.1,q.2.2.2])
theorem celsQ_snoc (qs:List Q4) (q:Q4):celsQ (qs++[q])=celsQ qs++[q.1,q.2.1,q.2.2.1,q.2.2.2]:=by simp [celsQ]
theorem celsQ_at:∀ (qs:List Q4) (i:Nat) (h:i < qs.length),(celsQ qs)[i*4]?=some (qs[i]).1/\(celsQ qs)[i*4+1]?=some (qs[i]).2.1/\(celsQ qs)[i*4+2]?=some (qs[i]).2.2.1/\(celsQ qs)[i*4+3]?=some (qs[i]).2.2.2
 | [],i,h=>by simp at h
 | x :: t,0,h=>⟨rfl,rfl,rfl,rfl⟩
 | x :: t,k+1,h=>by
  have ih:=celsQ_at t k (by simpa using h)
  have e:∀ i,(celsQ (x :: t))[(k+1)*4+i]?=(celsQ t)[k*4+i]?:=fun i=>by
   show ([x.1,x.2.1,x.2.2.1,x.2.2.2]++celsQ t)[(k+1)*4+i]?=_
   rw [List.getElem?_append_right (by simp;omega)]
   congr 1
   simp;omega
  refine ⟨(e 0).trans ih.1,(e 1).trans ih.2.1,(e 2).trans ih.2.2.1,(e 3).trans ih.2.2.2⟩
theorem ownsRow_keep {w w':World}{base e size:Nat}{v:Value}{n:Nat}{xs:List Value}(h:w.ownsRow base e size v n xs) (hk:∀ g,v.ownBlock=some g->w'.heap[g]?=w.heap[g]?):w'.ownsRow base e size v n xs:=by
 refine ⟨h.1,?_⟩
 rcases h.2 with hn|⟨g,cap,cur,rfl,hbg,hg,rest⟩
 ·exact .inl hn
 ·exact .inr ⟨g,cap,cur,rfl,hbg,by rw [hk g rfl];exact hg,rest⟩
theorem ownsRow_lt {w:World}{base e size:Nat}{v:Value}{n:Nat}{xs:List Value}(h:w.ownsRow base e size v n xs):∀ g,v.ownBlock=some g->base<=g/\g < w.heap.size:=by
 intro g hg
 rcases h.2 with ⟨rfl,_⟩|⟨g',cap,cur,rfl,hbg,hgg,rest⟩
 ·simp [Value.ownBlock] at hg
 ·simp [Value.ownBlock] at hg
  subst hg
  exact ⟨hbg,(Array.getElem?_eq_some_iff.1 hgg).1⟩
section
variable {P:Program}(w:World)
theorem run_append_at (base:Nat) (t tx ty e:TypeId) (i:TypeInfo) (z:Value) (size bytes:Nat) (ht:P.underlying t=some (.slice e)) (hi:P.info? e=some i) (hz:i.zero=some z)
  (hsize:i.size=size) (hby:i.bytes=bytes) (hzs:z.cells.size=size)
  (v:Value) (n:Nat) (xs:List Value) (hown:w.ownsRow base e size v n xs)
  (x:Value) (m:Nat) (news:List Value) (hs:Src P size tx x m news w) (r:Nat) (hroom:Room bytes v n r) (hm:m<=r)
  (h63:n+r<=maxLen) (hbase:base<=w.heap.size) :
  ∃ v' w',(Builtin.append_ #[t,tx] ty #[v,x]).run P w=.ok v' w'/\w'.ownsRow base e size v' (n+m) (xs++news)/\w.grownBy w' v.ownBlock/\Room bytes v' (n+m) (r - m)/\(v'.ownBlock=v.ownBlock∨v'.ownBlock=some w.heap.size):=by
 subst hsize
 subst hby
 have hl:=hs.newsLen
 have h63':n+m<=9223372036854775807:=by simp only [maxLen] at h63;omega
 have h63m:n+m<=maxLen:=by simp only [maxLen] at h63 ⊢;omega
 have hlen:(xs++news).length=(n+m)*i.size:=by rw [List.length_append,hown.1,hl,Nat.add_mul]
 have grown:∀ (old:Nat),old < n+m->∀ (row:Option Nat),
   (w.drew.alloc (.cells ((xs++news).toArray++Builtin.zeroCells z.cells (grownCap w (n+m) old e - (n+m))) e)).ownsRow base e i.size
    (.slice (some ⟨w.heap.size,0,none⟩) (n+m) (grownCap w (n+m) old e)) (n+m) (xs++news)/\
   w.grownBy (w.drew.alloc (.cells ((xs++news).toArray++Builtin.zeroCells z.cells (grownCap w (n+m) old e - (n+m))) e)) row:=by
  intro old ho row
  have hge:=grownCap_ge w (n+m) old e
  have hcm:grownCap w (n+m) old e<=maxLen:=grownCap_le_maxLen w (n+m) old e h63m
  refine ⟨⟨hlen,.inr ⟨w.heap.size,_,_,rfl,hbase,heap_alloc_new w.drew _,hge,hcm,?_,?_⟩⟩,⟨rfl,rfl,rfl,by simp,fun k hk _=>Below.heap_alloc w.drew _ k hk⟩⟩
  ·simp only [Array.size_append,List.size_toArray,size_zeroCells,hzs,hlen,<- Nat.add_mul]
   congr 1
   omega
  ·simp only [Array.toList_append]
   rw [<- hlen]
   exact List.take_left
 have bound:∀ {a cap},v=.slice a n cap->cap < n+m->(n+r+(n+r) / 4+192)*i.bytes<=281474976710656:=by
  intro a cap hv hc
  rcases hroom with ⟨a',cap',hv',hc'⟩|h
  ·rw [hv] at hv'
   simp only [Value.slice.injEq] at hv'
   omega
  ·exact h
 rcases hown.2 with ⟨rfl,rfl⟩|⟨g,cap,cur,rfl,hbg,hg,hnc,hcm,hcs,htake⟩
 ·have hx:xs=[]:=List.eq_nil_of_length_eq_zero (by simpa using hown.1)
  subst hx
  by_cases hm0:m=0
  ·subst hm0
   have hn:news=[]:=List.eq_nil_of_length_eq_zero (by simpa using hl)
   subst hn
   exact ⟨.slice none 0 0,w,run_append_nothing w t tx ty e i ht hi x hs,World.ownsRow_nil w base e i.size,World.grownBy.refl w _,by simpa using hroom,.inl rfl⟩
  ·have hb:=bound rfl (by omega)
   have hr:=run_append_grow_src (P:=P) w t tx ty e i z ht hi hz none 0 0 [] (by simp [Builtin.firstCells]) x m news hs (by omega) (by omega) (growslice_fits_wide (by omega) (Nat.le_trans (Nat.mul_le_mul_right _ (by omega)) hb))
   have hgr:=grown 0 (by omega) (Value.ownBlock (.slice none 0 0))
   simp only [Nat.zero_add,List.nil_append] at hgr hr ⊢
   exact ⟨_,_,hr,hgr.1,hgr.2,.inr (Nat.le_trans (Nat.mul_le_mul_right _ (by omega)) hb),.inr rfl⟩
 ·by_cases hrm:n+m<=cap
  ·have hfit:n*i.size+news.length<=cur.size:=by rw [hl,hcs,<- Nat.add_mul];exact Nat.mul_le_mul_right _ hrm
   have hr:=run_append_room_src_own (P:=P) w t tx ty e i ht hi g n cap cur hg x m news hs hrm hfit
   refine ⟨_,_,hr,⟨hlen,.inr ⟨g,cap,_,rfl,hbg,setRow_heap w g cur _ e _ hg,hrm,hcm,?_,?_⟩⟩,⟨rfl,rfl,rfl,by simp,fun k _ hk=>setRow_other w g k _ (fun e=>hk (by simp [Value.ownBlock,e]))⟩,?_,.inl rfl⟩
   ·simp only [List.size_toArray,List.length_append,List.length_take,List.length_drop,Array.length_toList]
    omega
   ·rw [htake,<- hlen]
    exact List.take_left
   ·rcases hroom with ⟨a,c,hv,hc⟩|h
    ·simp only [Value.slice.injEq] at hv
     exact .inl ⟨_,_,rfl,by omega⟩
    ·exact .inr (Nat.le_trans (Nat.mul_le_mul_right _ (by omega)) h)
  ·have hb:=bound rfl (by omega)
   have holds:∀ j u,xs[j]?=some u->w.cell? ((⟨g,0,none⟩:Addr).add j)=some u:=hown.cells (g:=g) rfl
   have hr:=run_append_grow_src (P:=P) w t tx ty e i z ht hi hz (some ⟨g,0,none⟩) n cap xs (run_firstCells_some w.drew i.size n ⟨g,0,none⟩ n cap xs hown.1 (by simpa using holds)) x m news hs (by omega) (by omega)
    (growslice_fits_wide (by omega) (Nat.le_trans (Nat.mul_le_mul_right _ (by omega)) hb))
   have hgr:=grown cap (by omega) (Value.ownBlock (.slice (some ⟨g,0,none⟩) n cap))
   exact ⟨_,_,hr,hgr.1,hgr.2,.inr (Nat.le_trans (Nat.mul_le_mul_right _ (by omega)) hb),.inr rfl⟩
theorem wpList_append_at {ops:Array Oper}{rest:List Oper}{o:Oper}{a:Act}{Q:Exit->Act->World->Prop}(hgd:o.guard=none) (s x:Operand) (t tx:TypeId)
  (ho:o.op=.call { callee:=.builtin .append,args:=#[s,x],argTypes:=#[t,tx] })
  (base:Nat) (e:TypeId) (i:TypeInfo) (z:Value) (size bytes:Nat) (ht:P.underlying t=some (.slice e)) (hi:P.info? e=some i) (hz:i.zero=some z)
  (hsize:i.size=size) (hby:i.bytes=bytes) (hzs:z.cells.size=size)
  (v:Value) (n:Nat) (xs:List Value) (hs:a.eval s=v) (hown:w.ownsRow base e size v n xs)
  (xv:Value) (m:Nat) (news:List Value) (hx:a.eval x=xv) (hsrc:Src P size tx xv m news w) (r:Nat) (hroom:Room bytes v n r) (hm:m<=r)
  (h63:n+r<=maxLen) (hbase:base<=w.heap.size)
  (h:∀ v' w',w'.ownsRow base e size v' (n+m) (xs++news)->w.grownBy w' v.ownBlock->(v'.ownBlock=v.ownBlock∨v'.ownBlock=some w.heap.size)->wpList P ops Q rest (a.put o.dst v') w'):wpList P ops Q (o :: rest) a w:=by
 refine wpList_plain hgd fun K hK=>?_
 obtain ⟨v',w',hr,h2,h3,_,h4⟩:=run_append_at (P:=P) w base t tx o.type e i z size bytes ht hi hz hsize hby hzs v n xs hown xv m news hsrc r hroom hm h63 hbase
 unfold Oper.wp execOp
 simp only [ho,resolve,invoke,builtin,Sem.run_bind,Sem.run_pure,Result.andThen_ok,List.map_toArray,List.map_cons,List.map_nil,hs,hx,hr]
 exact hK _ _ (h v' w' h2 h3 h4)
end
theorem step_append_at {P:Program}(w:World) {ops:Array Oper}{o:Oper}{a:Act}{K:Act->World->Prop}{Q:Exit->Act->World->Prop}{E:Prop}(hgd:o.guard=none) (s x:Operand) (t tx:TypeId)
  (ho:o.op=.call { callee:=.builtin .append,args:=#[s,x],argTypes:=#[t,tx] })
  (base:Nat) (e:TypeId) (i:TypeInfo) (z:Value) (size bytes:Nat) (ht:P.underlying t=some (.slice e)) (hi:P.info? e=some i) (hz:i.zero=some z)
  (hsize:i.size=size) (hby:i.bytes=bytes) (hzs:z.cells.size=size)
  (v:Value) (n:Nat) (xs:List Value) (hs:a.eval s=v) (hown:w.ownsRow base e size v n xs)
  (xv:Value) (m:Nat) (news:List Value) (hx:a.eval x=xv) (hsrc:Src P size tx xv m news w) (r:Nat) (hroom:Room bytes v n r) (hm:m<=r)
  (h63:n+r<=maxLen) (hbase:base<=w.heap.size)
  (h:∀ v' w',w'.ownsRow base e size v' (n+m) (xs++news)->w.grownBy w' v.ownBlock->(v'.ownBlock=v.ownBlock∨v'.ownBlock=some w.heap.size)->K (a.put o.dst v') w') :
  if Region.wanted o (yielded ops a.tmps)=true then Oper.wp P o a w K Q else E:=by
 have hw:Region.wanted o (yielded ops a.tmps)=true:=by simp [Region.wanted,hgd]
 rw [if_pos hw]
 obtain ⟨v',w',hr,h2,h3,_,h4⟩:=run_append_at (P:=P) w base t tx o.type e i z size bytes ht hi hz hsize hby hzs v n xs hown xv m news hsrc r hroom hm h63 hbase
 unfold Oper.wp execOp
 simp only [ho,resolve,invoke,builtin,Sem.run_bind,Sem.run_pure,Result.andThen_ok,List.map_toArray,List.map_cons,List.map_nil,hs,hx,hr]
 exact h v' w' h2 h3 h4
end Go.Proofs.YtfjdceknbdmhpaaGreatDoor
namespace Go.Proofs.YtfjdceknbdmhpaaGreatDoor
open Go.RowKit Go.Lib
set_option linter.unusedSimpArgs false
set_option linter.unusedVariables false
attribute [local go_sem ↓] Go.wp_at_zero Go.wp_at_succ
def exX (x:Sx):Value:=exV x.1 x.2
theorem exX_form (x:Sx):exX x=.nilIface∨∃ u y,exX x=.iface u y:=exV_form x.1 x.2
theorem exX_mk2 (s:ByteArray) (x y:Sx):exX (mk2 s x y)=.iface 198 (.agg #[.string s,exX x,exX y]):=foldS_mk2 _ s x y
theorem exX_not (x:Sx):exX (mk1 3 x)=.iface 195 (.agg #[exX x]):=rfl
theorem exX_neg (x:Sx):exX (mk1 4 x)=.iface 196 (.agg #[exX x]):=rfl
theorem exX_lit (n:Int):exX (mk0 1 n ⟨#[]⟩)=.iface 191 (.agg #[.int .i64 n]):=rfl
theorem exX_ref (s:ByteArray):exX (mk0 2 0 s)=.iface 193 (.agg #[.string s]):=rfl
def cel2 (s:Sg2):List Value:=[.string ⟨s.1.toArray⟩,.int .i64 (s.2:Int)]
def cels2 (l:List Sg2):List Value:=l.flatMap cel2
theorem cels2_app (a b:List Sg2):cels2 (a++b)=cels2 a++cels2 b:=by simp [cels2]
theorem cels2_len (l:List Sg2):(cels2 l).length=l.length*2:=by
 induction l with
 | nil=>rfl
 | cons a r ih=>simp [cels2,cel2] at ih ⊢;omega
structure Rdr (w:World) (X:Nat) (y:Yd) (vv ww:Value):Prop where
 b:B4 w X vv ww (.int .i64 (y.o:Int)) (.bool y.b)
 v:w.ownsRow (X+1) 130 1 vv y.V.length (y.V.reverse.map exX)
 w:w.ownsRow (X+1) 347 2 ww y.W.length (cels2 y.W.reverse)
 a:∀ g,vv.ownBlock=some g->ww.ownBlock≠some g
theorem own_keep {w w':World}{base e size n:Nat}{v:Value}{xs:List Value}(h:w.ownsRow base e size v n xs) (hk:∀ g,v.ownBlock=some g->w'.heap[g]?=w.heap[g]?):w'.ownsRow base e size v n xs:=ownsRow_keep h hk
theorem Rdr.on {w w':World}{X:Nat}{y:Yd}{vv ww:Value}(h:Rdr w X y vv ww) (hb:Below w.heap.size w w'):Rdr w' X y vv ww:=
 ⟨h.b.keep hb,own_on h.v hb Nat.le.refl,own_on h.w hb Nat.le.refl,h.a⟩
theorem Rdr.drew {w:World}{X:Nat}{y:Yd}{vv ww:Value}(h:Rdr w X y vv ww):Rdr w.drew X y vv ww:=⟨⟨h.b.c0,h.b.c1,h.b.c2,h.b.c3,h.b.f0,h.b.f1,h.b.f2,h.b.f3⟩,h.v,h.w,h.a⟩
theorem Rdr.drewN {w:World}{X:Nat}{y:Yd}{vv ww:Value}(h:Rdr w X y vv ww) (m:Nat):Rdr (w.drewN m) X y vv ww:=h.on ⟨rfl,rfl,rfl,Nat.le_refl _,fun _ _=>rfl⟩
theorem Rdr.lt {w:World}{X:Nat}{y:Yd}{vv ww:Value}(h:Rdr w X y vv ww):X < w.heap.size:=h.b.lt
structure Fr2 (X:Nat) (vv ww:Value) (w w':World) (vv' ww':Value):Prop where
 size:w.heap.size<=w'.heap.size
 block:∀ k,k < w.heap.size->k≠X->vv.ownBlock≠some k->ww.ownBlock≠some k->w'.heap[k]?=w.heap[k]?
 lv:∀ g,vv'.ownBlock=some g->vv.ownBlock=some g∨w.heap.size<=g
 lw:∀ g,ww'.ownBlock=some g->ww.ownBlock=some g∨w.heap.size<=g
theorem Fr2.refl (X:Nat) (vv ww:Value) (w:World):Fr2 X vv ww w w vv ww:=⟨Nat.le_refl _,fun _ _ _ _ _=>rfl,fun _ h=>.inl h,fun _ h=>.inl h⟩
theorem Fr2.on {X:Nat}{vv ww vv' ww':Value}{w w1 w2:World}(h:Fr2 X vv ww w w1 vv' ww') (hb:Below w1.heap.size w1 w2):Fr2 X vv ww w w2 vv' ww':=
 ⟨Nat.le_trans h.size hb.size,fun k hk a b c=>(hb.block k (Nat.lt_of_lt_of_le hk h.size)).trans (h.block k hk a b c),h.lv,h.lw⟩
theorem Fr2.setX {X:Nat}{vv ww vv' ww':Value}{w w1:World}(h:Fr2 X vv ww w w1 vv' ww') (i:Nat) (u:Value):Fr2 X vv ww w (w1.setCell ⟨X,i,none⟩ u) vv' ww':=
 ⟨by simpa using h.size,fun k hk a b c=>(Below.heap_setCell _ _ _ _ (fun e=>a e)).trans (h.block k hk a b c),h.lv,h.lw⟩
theorem Fr2.setV {X g:Nat}{vv ww vv' ww':Value}{w w1:World}(h:Fr2 X vv ww w w1 vv' ww') (hg:vv'.ownBlock=some g) (i:Nat) (u:Value):Fr2 X vv ww w (w1.setCell ⟨g,i,none⟩ u) vv' ww':=
 ⟨by simpa using h.size,fun k hk a b c=>(Below.heap_setCell _ _ _ _ (fun e=>by
  rcases h.lv g hg with q|q
  ·exact b (by rw [q];exact congrArg some e.symm)
  ·have:k=g:=e
   omega)).trans (h.block k hk a b c),h.lv,h.lw⟩
theorem Fr2.rows {X:Nat}{vv ww vv' ww' vv2 ww2:Value}{w w1:World}(h:Fr2 X vv ww w w1 vv' ww') (hv:vv2.ownBlock=vv'.ownBlock) (hw:ww2.ownBlock=ww'.ownBlock):Fr2 X vv ww w w1 vv2 ww2:=
 ⟨h.size,h.block,fun g hg=>h.lv g (hv ▸ hg),fun g hg=>h.lw g (hw ▸ hg)⟩
theorem Fr2.trans {X:Nat}{vv ww v1 u1 v2 u2:Value}{w w1 w2:World}(h:Fr2 X vv ww w w1 v1 u1) (k:Fr2 X v1 u1 w1 w2 v2 u2):Fr2 X vv ww w w2 v2 u2:=by
 refine ⟨Nat.le_trans h.size k.size,fun j hj a b c=>?_,fun g hg=>?_,fun g hg=>?_⟩
 ·rw [k.block j (Nat.lt_of_lt_of_le hj h.size) a (fun e=>?_) (fun e=>?_),h.block j hj a b c]
  ·rcases h.lv j e with q|q
   ·exact b q
   ·omega
  ·rcases h.lw j e with q|q
   ·exact c q
   ·omega
 ·rcases k.lv g hg with q|q
  ·exact h.lv g q
  ·exact .inr (Nat.le_trans h.size q)
 ·rcases k.lw g hg with q|q
  ·exact h.lw g q
  ·exact .inr (Nat.le_trans h.size q)
theorem own_form {w:World}{base e size n:Nat}{v:Value}{xs:List Value}(h:w.ownsRow base e size v n xs):∃ a cap,v=.slice a n cap/\n<=cap:=by
 rcases h.2 with ⟨h1,h2⟩|⟨g,cap,cur,h1,_,_,h3,_⟩
 ·exact ⟨none,0,by rw [h1,h2],by omega⟩
 ·exact ⟨_,_,h1,h3⟩
theorem own_last2 {w:World}{base e:Nat}{v:Value}{s:Sg2}{W:List Sg2}(h:w.ownsRow base e 2 v (s :: W).length (cels2 (s :: W).reverse)):∃ g cap,v=.slice (some ⟨g,0,none⟩) (W.length+1) cap/\W.length+1<=cap/\cap<=maxLen/\base<=g/\g < w.heap.size/\
  w.cell? ⟨g,W.length*2,none⟩=some (.string ⟨s.1.toArray⟩)/\w.cell? ⟨g,W.length*2+1,none⟩=some (.int .i64 (s.2:Int))/\w.ownsRow base e 2 (.slice (some ⟨g,0,none⟩) W.length cap) W.length (cels2 W.reverse):=by
 rw [List.length_cons,List.reverse_cons,cels2_app] at h
 have hl:(cels2 W.reverse).length=W.length*2:=by rw [cels2_len,List.length_reverse]
 have hc:=fun g=>World.ownsRow.cells h (g:=g)
 have h':=h
 rcases h.2 with ⟨_,h2⟩|⟨g,cap,cur,rfl,hb,hg,hnc,hcm,hcs,htake⟩
 ·omega
 ·have c0:=hc g rfl (W.length*2) (.string ⟨s.1.toArray⟩) (by rw [List.getElem?_append_right (by omega),hl,Nat.sub_self];rfl)
  have c1:=hc g rfl (W.length*2+1) (.int .i64 (s.2:Int)) (by rw [List.getElem?_append_right (by omega),hl,Nat.add_sub_cancel_left];rfl)
  have hp:∀ i,(⟨g,0,none⟩:Addr).add i=⟨g,i,none⟩:=fun i=>by unfold Addr.add;split<;>simp_all
  rw [hp] at c0 c1
  exact ⟨g,cap,rfl,hnc,hcm,hb,(Array.getElem?_eq_some_iff.1 hg).1,c0,c1,ownsRow_pop hl h'⟩
theorem own_nil {w:World}{base e size:Nat}{v:Value}{xs:List Value}(h:w.ownsRow base e size v 0 xs):∃ a cap,v=.slice a 0 cap:=by
 obtain ⟨a,cap,rfl,_⟩:=own_form h
 exact ⟨a,cap,rfl⟩
theorem last_any {w:World}{X:Nat}{y:Yd}{vv ww:Value}(h:Rdr w X y vv ww) (hl:y.W.length<=4000):Calls Tryz.prog 296 #[.pointer (some ⟨X,0,none⟩)] w fun e w'=>e=.returned (.int .i64 (topL y.W:Int))/\∃ m,w'=w.drewN m:=by
 have hc:=h.b.c1
 have hw:=h.w
 clear h
 obtain ⟨V,W,o,b⟩:=y
 simp only at hc hw hl ⊢
 cases W with
 | nil=>
  obtain ⟨a,cap,rfl⟩:=own_nil hw
  clear hw
  go_enter Tryz.func296,Tryz.ntmps296
  go_wp2
  go_ret
  exact ⟨rfl,0,rfl⟩
 | cons s W=>
  obtain ⟨g,cap,rfl,h1,h2,h3,h4,c0,c1,_⟩:=own_last2 hw
  rw [List.length_cons] at hl
  have i1:((W.length:Int)+1 == 0)=false:=beq_eq_false_iff_ne.2 (by omega)
  have i2:IntKind.i64.wrap ((W.length:Int)+1 - 1)=(W.length:Int):=by rw [IntKind.wrap_i64];omega
  have i3:(W.length:Int) < (W.length:Int)+1:=by omega
  have i4:(0:Int)<=(W.length:Int):=by omega
  clear hw
  go_enter Tryz.func296,Tryz.ntmps296
  go_wp2
  go_quiet (fail)
  go_wp2
  go_ret
  exact ⟨rfl,_,rfl⟩
