import Derived.Test.YtlgnahpfggagoaaGreatDoorWzc02
import Derived.Test.YtlgnahpfggagoaaGreatDoorWzc01
import Derived.BigQuiet
import Derived.Deep.QuietTactic
import Derived.BigRegion
import Derived.Test.YtlgnahpfggagoaaGreatDoorRows
/- Words one by one; what reading makes of them; how long a printed text is. Math alone. -/
namespace Go.Proofs.YtlgnahpfggagoaaGreatDoor
open Go.RowKit Go.Lib
set_option linter.unusedSimpArgs false
set_option linter.unusedVariables false
/-- The runes are one word of this kind, and no more. -/
structure OneW (K:Nat) (seg:List Ru):Prop where
 k:K≠0
 f:fst1 seg=(K,seg.length)
 g:∀ v∈seg,Good v
 h:∃ v t,seg=v :: t∧v.1≠10∧v.1≠32∧v.1≠9∧v.1≠35
 l:(byt seg).length≤12000
theorem byt_take_le (rs:List Ru) (m:Nat):(byt (rs.take m)).length≤(byt rs).length:=by have:=byt_split rs m;omega
theorem byt_drop_le (rs:List Ru) (m:Nat):(byt (rs.drop m)).length≤(byt rs).length:=by have:=byt_split rs m;omega
theorem wrds_one:∀ (f:Nat) (rs:List Ru),rs.length≤f→(∀ v∈rs,v.1≠-1→Good v)→(byt rs).length≤12000→∀ (ln co:Int) (n:Nat),n≤3000→(wrds rs ln co n).2.2=0→
  (∀ w∈(wrds rs ln co n).1,OneW w.1 w.2.1)∧n+(wrds rs ln co n).1.length≤3000
 | 0,rs,h,_,_,ln,co,n,hn,_=>by
  have:rs=[]:=List.eq_nil_of_length_eq_zero (by omega)
  subst this
  exact ⟨(fun w hw=>(by cases hw)),by rw [wrds_nil];simpa using hn⟩
 | f+1,[],h,_,_,ln,co,n,hn,_=>⟨(fun w hw=>(by cases hw)),by rw [wrds_nil];simpa using hn⟩
 | f+1,v :: t,h,hg,hb,ln,co,n,hn,h0=>by
  have ht:t.length≤f:=by simp at h;omega
  have hgt:∀ v∈t,v.1≠-1→Good v:=fun x hx=>hg x (List.mem_cons_of_mem _ hx)
  have hbt:(byt t).length≤12000:=by rw [byt_cons,List.length_append] at hb;omega
  have e:=wrds_cons v t ln co n
  by_cases c1:v.1=10
  ·simp only [if_pos c1] at e
   rw [e] at h0 ⊢
   exact wrds_one f t ht hgt hbt _ _ _ hn h0
  simp only [if_neg c1] at e
  by_cases c2:v.1=32∨v.1=9
  ·simp only [if_pos c2] at e
   rw [e] at h0 ⊢
   exact wrds_one f t ht hgt hbt _ _ _ hn h0
  simp only [if_neg c2] at e
  by_cases c3:v.1=35
  ·simp only [if_pos c3] at e
   have hp:=rest_pos (t:=t) c1
   rw [e] at h0 ⊢
   exact wrds_one f _ (by rw [List.length_drop];simp;omega) (fun x hx=>hg x (List.mem_of_mem_drop hx)) (Nat.le_trans (byt_drop_le _ _) hb) _ _ _ hn h0
  simp only [if_neg c3] at e
  by_cases c4:(fst1 (v :: t)).1=0
  ·simp only [if_pos c4] at e
   rw [e] at h0;simp at h0
  simp only [if_neg c4] at e
  by_cases c5:n=3000
  ·simp only [if_pos c5] at e
   rw [e] at h0;simp at h0
  simp only [if_neg c5] at e
  obtain ⟨hm,hm2⟩:=fst1_le v t c4
  obtain ⟨hf,hgd⟩:=fst1_take c4
  rw [e] at h0 ⊢
  obtain ⟨hr0,hX⟩:=pre_ok h0
  have ih:=wrds_one f _ (by rw [List.length_drop];simp;omega) (fun x hx=>hg x (List.mem_of_mem_drop hx)) (Nat.le_trans (byt_drop_le _ _) hb) _ _ _ (by omega) hr0
  rw [hX]
  refine ⟨fun w hw=>?_,by rw [List.length_cons];omega⟩
  rcases List.mem_cons.1 hw with rfl | hw
  ·have hl:((v :: t).take (fst1 (v :: t)).2).length=(fst1 (v :: t)).2:=by rw [List.length_take];omega
   refine ⟨c4,?_,fun x hx=>hg x (List.mem_of_mem_take hx) (hgd x hx),?_,Nat.le_trans (byt_take_le _ _) hb⟩
   ·show fst1 ((v :: t).take (fst1 (v :: t)).2)=_
    rw [hf,hl]
   ·obtain ⟨m,hmm⟩:∃ m,(fst1 (v :: t)).2=m+1:=⟨(fst1 (v :: t)).2 - 1,by omega⟩
    refine ⟨v,t.take m,?_,c1,fun h=>c2 (.inl h),fun h=>c2 (.inr h),c3⟩
    show (v :: t).take (fst1 (v :: t)).2=_
    rw [hmm,List.take_succ_cons]
  ·exact ih.1 w hw
/-- Each word of a text is one; there are at most so many. -/
theorem words_one {l:List UInt8}(h:(wordsS l).2.2=0):(∀ w∈(wordsS l).1,OneW w.1 w.2.1)∧(wordsS l).1.length≤3000:=by
 by_cases hl:12000 < l.length
 ·unfold wordsS at h;rw [if_pos hl] at h;simp at h
 have e:wordsS l=wrds (runes l) 1 1 0:=by unfold wordsS;rw [if_neg hl]
 rw [e] at h ⊢
 have:=wrds_one _ _ (Nat.le_refl _) (runes_are_good _ l (Nat.le_refl _)) (by rw [byt_runes _ l (Nat.le_refl _)];omega) 1 1 0 (by omega) h
 exact ⟨this.1,by omega⟩
theorem OneW.runes {K:Nat}{seg:List Ru}(h:OneW K seg):runes (byt seg)=seg:=by
 have:=runes_goods seg [] h.g
 rw [List.append_nil,runes_nil,List.append_nil] at this
 exact this
/-- A word's text has that word alone. -/
theorem OneW.words {K:Nat}{seg:List Ru}(h:OneW K seg):wordsS (byt seg)=([(K,seg,1,1)],(0,0),0):=by
 have hr:=h.runes
 have hl:=h.l
 have hf:=h.f
 have hk:=h.k
 unfold wordsS
 rw [if_neg (by omega),hr]
 obtain ⟨v,t,e,h1,h2,h3,h4⟩:=h.h
 rw [e] at hf ⊢
 rw [wrds_cons,if_neg h1,if_neg (fun q=>q.elim h2 h3),if_neg h4,hf,if_neg hk,if_neg (by decide),List.take_length,List.drop_length,wrds_nil]
 rfl
theorem OneW.kind {K:Nat}{seg:List Ru}(h:OneW K seg):(K=1∧nameS (byt seg)=true)∨(K=2∧numB (byt seg)=true)∨(K=3∧∃ v t,seg=v :: t∧letter v.1=false∧dgt v.1=false):=by
 have hr:=h.runes
 have hf:=h.f
 have hk:=h.k
 obtain ⟨v,t,e,_⟩:=h.h
 have hbne:byt seg≠[]:=fun e0=>by rw [e0,runes_nil] at hr;rw [← hr] at e;cases e
 have hnx:(nx (byt seg)).1=v.1:=by
  have:=runes_cons hbne
  rw [hr,e] at this
  injection this with h1 _
  rw [e]
  exact (congrArg Prod.fst h1).symm
 rw [e,fst1_cons,← e] at hf
 by_cases a:letter v.1=true
 ·rw [if_pos a] at hf
  by_cases b:spn seg≤24
  ·rw [if_pos b] at hf
   injection hf with h1 h2
   left
   refine ⟨h1.symm,?_⟩
   unfold nameS
   have hs:spb (byt seg)=(byt seg).length:=by unfold spb;rw [hr,h2,List.take_length]
   rw [hnx,a,hs,hr,decide_eq_true b];simp
  ·rw [if_neg b] at hf
   injection hf with h1 _
   exact absurd h1.symm hk
 ·rw [if_neg a] at hf
  by_cases d:dgt v.1=true
  ·rw [if_pos d] at hf
   by_cases b:numb (seg.take (spn seg))=true
   ·rw [if_pos b] at hf
    injection hf with h1 h2
    right;left
    refine ⟨h1.symm,?_⟩
    rw [h2,List.take_length] at b
    rw [numB_numb (l:=byt seg) seg (fun v hv=>by rw [hr];exact hv)]
    exact b
   ·rw [if_neg b] at hf
    injection hf with h1 _
    exact absurd h1.symm hk
  ·rw [if_neg d] at hf
   by_cases b:sgn seg=0
   ·rw [if_pos b] at hf
    injection hf with h1 _
    exact absurd h1.symm hk
   ·rw [if_neg b] at hf
    injection hf with h1 _
    right;right
    exact ⟨h1.symm,v,t,e,by simpa using a,by simpa using d⟩
/-- A word as it is read: its kind, its bytes. -/
def tkW (x:Wd):Tk:=(x.1,byt x.2.1)
theorem OneW.good {K:Nat}{seg:List Ru}(h:OneW K seg):GdW1 (K,byt seg):=by
 rcases h.kind with ⟨rfl,h1⟩ | ⟨rfl,h1⟩ | ⟨rfl,_⟩
 ·obtain ⟨a,b,c,d⟩:=name_far h1
  exact ⟨.inl rfl,fun _=>⟨a,b,c,d,fun e=>by simp only at e;rw [e] at h1;revert h1;decide⟩⟩
 ·obtain ⟨a,b,c,d⟩:=num_far h1
  exact ⟨.inr (.inl rfl),fun _=>⟨a,b,c,d,fun e=>by simp only at e;rw [e] at h1;revert h1;decide⟩⟩
 ·exact ⟨.inr (.inr rfl),fun h=>absurd rfl h⟩
theorem good_all {l:List Wd}(h:∀ w∈l,OneW w.1 w.2.1):∀ w∈l.map tkW,GdW1 w:=fun w hw=>by
 obtain ⟨x,hx,rfl⟩:=List.mem_map.1 hw
 exact (h x hx).good
/-- What holds of each expression that is read, from a place to a place. -/
def BadOr (Q:Nat→Nat→Sx→Prop) (n:Nat) (r:Rd3):Prop:=(r.2.2 = -1∧Q n r.2.1 r.1)∨0≤r.2.2
section
variable {nb:List UInt8→Int}{rsv:List UInt8→Bool}{l:List Tk}{Q:Nat→Nat→Sx→Prop}
theorem lop_pos {next:Nat→Int→Rd3}{k n:Nat}{x:Sx}{b:Int}(h:0≤b):∀ G,lop l next k G (x,n,b)=(x,n,b)
 | 0=>rfl
 | G+1=>by
  unfold lop
  cases l[n]? with
  | none=>rfl
  | some w=>simp only;rw [if_neg (fun q=>by have:=q.1;omega)]
theorem lop_all {next:Nat→Int→Rd3}{k n0:Nat}(hk:1≤k) (h2:∀ n m n' w x y,l[m]?=some w→lv w.2≠0→Q n m x→Q (m+1) n' y→Q n n' (mk2 ⟨w.2.toArray⟩ x y)) (hN:∀ n,BadOr Q n (next n (-1))):∀ (G n:Nat) (x:Sx),Q n0 n x→BadOr Q n0 (lop l next k G (x,n,-1))
 | 0,n,x,hx=>.inl ⟨rfl,hx⟩
 | G+1,n,x,hx=>by
  unfold lop
  cases hw:l[n]? with
  | none=>exact .inl ⟨rfl,hx⟩
  | some w=>
   simp only
   by_cases hc:(-1:Int) < 0∧lv w.2=k
   ·rw [if_pos hc]
    have hne:lv w.2≠0:=by have:=hc.2;omega
    obtain ⟨r,hr⟩:∃ r,next (n+1) (-1)=r:=⟨_,rfl⟩
    have hb:=hN (n+1)
    rw [hr] at hb ⊢
    obtain ⟨y,n',b'⟩:=r
    rcases hb with ⟨e1,e2⟩ | e1
    ·simp only at e1 e2
     subst e1
     have hp:=h2 n0 n n' w x y hw hne hx e2
     by_cases h3:k=3
     ·rw [if_pos h3];exact .inl ⟨rfl,hp⟩
     ·rw [if_neg h3];exact lop_all hk h2 hN G n' _ hp
    ·simp only at e1
     by_cases h3:k=3
     ·rw [if_pos h3];exact .inr e1
     ·rw [if_neg h3,lop_pos e1];exact .inr e1
   ·rw [if_neg hc];exact .inl ⟨rfl,hx⟩
theorem psr_all (h0:∀ n w x,l[n]?=some w→leafY nb rsv w=some x→Q n (n+1) x) (h1:∀ n n' k x,k=3∨k=4→Q (n+1) n' x→Q n n' (mk1 k x)) (h2:∀ n m n' w x y,l[m]?=some w→lv w.2≠0→Q n m x→Q (m+1) n' y→Q n n' (mk2 ⟨w.2.toArray⟩ x y))
  (h3:∀ n n' x,Q (n+1) n' x→Q n (n'+1) x):∀ (f k n:Nat),1≤k→k≤6→BadOr Q n (psr nb rsv l f k n (-1))
 | 0,k,n,_,_=>.inr (by show (0:Int)≤if (-1:Int) < 0 then (n:Int) else -1;rw [if_pos (by decide)];omega)
 | f+1,k,n,hk,hk6=>by
  by_cases h6:k=6
  ·subst h6
   cases hw:l[n]? with
   | none=>rw [psr6_end hw];exact .inr (by show (0:Int)≤(n:Int);omega)
   | some w=>
    by_cases hu:w.2=[33]∨w.2=[45]
    ·rw [psr6_un hw hu]
     rcases psr_all h0 h1 h2 h3 f 6 (n+1) (by omega) (by omega) with ⟨e1,e2⟩ | e1
     ·exact .inl ⟨e1,h1 _ _ _ _ (by split <;> simp) e2⟩
     ·exact .inr e1
    ·by_cases h40:w.2=[40]
     ·rw [psr6_par hw h40]
      rcases psr_all h0 h1 h2 h3 f 1 (n+1) (by omega) (by omega) with ⟨e1,e2⟩ | e1
      ·split
       ·exact .inl ⟨e1,h3 _ _ _ e2⟩
       ·refine .inr ?_
        show (0:Int)≤if _ < (0:Int) then _ else _
        rw [e1,if_pos (by decide)];omega
      ·rw [if_neg (by unfold isT;simp only [Bool.and_eq_true,decide_eq_true_eq];omega)]
       refine .inr ?_
       show (0:Int)≤if _ < (0:Int) then _ else _
       rw [if_neg (by omega)];exact e1
     ·rw [psr6_leaf hw hu h40]
      cases hlf:leafY nb rsv w with
      | some x=>exact .inl ⟨rfl,h0 n w x hw hlf⟩
      | none=>exact .inr (by show (0:Int)≤(n:Int);omega)
  ·rw [psr,if_neg h6]
   obtain ⟨r,hr⟩:∃ r,psr nb rsv l f (k+1) n (-1)=r:=⟨_,rfl⟩
   have hb:=psr_all h0 h1 h2 h3 f (k+1) n (by omega) (by omega)
   rw [hr] at hb ⊢
   obtain ⟨y,n',b'⟩:=r
   rcases hb with ⟨e1,e2⟩ | e1
   ·simp only at e1 e2
    subst e1
    exact lop_all hk h2 (fun m=>psr_all h0 h1 h2 h3 f (k+1) m (by omega) (by omega)) _ _ _ e2
   ·simp only at e1
    rw [lop_pos e1];exact .inr e1
end
def cntX (x:Sx):Nat:=cnt x.1 x.2
theorem cntX_mk2 (s:ByteArray) (x y:Sx):cntX (mk2 s x y)=cntX x+(cntX y+0)+1:=foldS_mk2 (fun (_ _:Int) (_:ByteArray) (l:List Nat)=>l.sum+1) s x y
/-- What is read of words: clean, sound, without reserved names, short. -/
structure Fine (x:Sx):Prop where
 cl:ClX x
 sd:sdC x.1 x.2=true
 pl:plC x.1 x.2=true
 sh:shrt 1000 x.1 x.2=true
theorem lv_opr {s:List UInt8}(h:lv s≠0):opr ⟨s.toArray⟩=true∧s.length≤2:=by
 have:=lv_opB h
 rcases this with rfl | rfl | rfl | rfl | rfl | rfl | rfl | rfl | rfl <;> exact ⟨by decide,by decide⟩
theorem nx4 {l:List UInt8}(h:l≠[]):(nx l).2≤4:=by
 rw [nx_size h,decodeL_N]
 generalize (l.getD 0 0).toNat=b0
 generalize (l.getD 1 0).toNat=b1
 generalize (l.getD 2 0).toNat=b2
 generalize (l.getD 3 0).toNat=b3
 generalize l.length=n
 unfold decodeN
 repeat' split
 all_goals simp
theorem rune4:∀ (n:Nat) (l:List UInt8),l.length≤n→∀ v∈runes l,v.2.length≤4
 | 0,l,h,v,hv=>by
  have:l=[]:=List.eq_nil_of_length_eq_zero (by omega)
  subst this;cases hv
 | n+1,l,h,v,hv=>by
  by_cases hl:l=[]
  ·subst hl;rw [runes_nil] at hv;cases hv
  ·have h1:=nx_pos hl
   have h4:=nx4 hl
   rw [runes_cons hl] at hv
   rcases List.mem_cons.1 hv with rfl | hv
   ·rw [List.length_take];omega
   ·exact rune4 n _ (by rw [List.length_drop];omega) v hv
theorem byt4:∀ (vs:List Ru),(∀ v∈vs,v.2.length≤4)→(byt vs).length≤4*vs.length
 | [],_=>by simp [byt]
 | v :: r,h=>by
  have h1:=h v (by simp)
  have h2:=byt4 r (fun x hx=>h x (by simp [hx]))
  rw [byt_cons,List.length_append,List.length_cons];omega
theorem name_len {b:List UInt8}(h:nameS b=true):b.length≤96:=by
 unfold nameS at h
 simp only [Bool.and_eq_true,decide_eq_true_eq,beq_iff_eq] at h
 have h1:spb b≤4*((runes b).take (spn (runes b))).length:=byt4 _ (fun v hv=>rune4 _ b (Nat.le_refl _) v (List.mem_of_mem_take hv))
 rw [List.length_take] at h1
 omega
theorem num_len {b:List UInt8}(h:numB b=true):b.length≤10∧0≤valB 0 b∧valB 0 b≤1000000000:=by
 unfold numB at h
 simp only [Bool.and_eq_true,decide_eq_true_eq] at h
 have hv:∀ (b:List UInt8) (n:Int),0≤n→b.all dB=true→0≤valB n b:=fun b=>by
  induction b with
  | nil=>intro n hn _;exact hn
  | cons c r ih=>
   intro n hn hb
   simp only [List.all_cons,Bool.and_eq_true] at hb
   have hd:48≤c.toNat∧c.toNat≤57:=of_decide_eq_true hb.1
   exact ih _ (by omega) hb.2
 refine ⟨?_,?_,?_⟩
 all_goals first | omega | exact hv b 0 (by omega) (by simp_all) | simp_all
theorem fine_read {l:List Wd}(h:∀ w∈l,OneW w.1 w.2.1) (f k n:Nat) (hk:1≤k) (hk6:k≤6):BadOr (fun n n' x=>Fine x∧n+cntX x≤n') n (psr (valB 0) rsvB (l.map tkW) f k n (-1)):=by
 refine psr_all (fun n w x hw0 hx=>⟨?_,?_⟩) (fun n n' k x hk hq=>⟨?_,?_⟩) (fun n m n' w x y hw0 hne hq hq'=>⟨?_,?_⟩) (fun n n' x hq=>⟨hq.1,by have:=hq.2;omega⟩) f k n hk hk6
 ·have hw:=List.mem_of_getElem? hw0
  obtain ⟨u,hu,rfl⟩:=List.mem_map.1 hw
  unfold leafY tkW at hx
  simp only at hx
  by_cases h2:u.1=2
  ·rw [if_pos h2] at hx
   obtain rfl:=Option.some.inj hx
   have hn:numB (byt u.2.1)=true:=by
    rcases (h u hu).kind with ⟨a,_⟩ | ⟨_,b⟩ | ⟨a,_⟩
    ·omega
    ·exact b
    ·omega
   obtain ⟨_,a,b⟩:=num_len hn
   refine ⟨.inl ⟨rfl,rfl,rfl⟩,?_,rfl,by rfl⟩
   show (decide (0≤valB 0 (byt u.2.1)) && decide (valB 0 (byt u.2.1)≤1000000000))=true
   rw [decide_eq_true a,decide_eq_true b];rfl
  ·rw [if_neg h2] at hx
   by_cases h1:u.1=1∧rsvB (byt u.2.1)=false
   ·rw [if_pos h1] at hx
    obtain rfl:=Option.some.inj hx
    have hn:nameS (byt u.2.1)=true:=by
     rcases (h u hu).kind with ⟨_,b⟩ | ⟨a,_⟩ | ⟨a,_⟩
     ·exact b
     ·omega
     ·omega
    have hl:=name_len hn
    refine ⟨.inr (.inl ⟨rfl,rfl,rfl⟩),?_,?_,?_⟩
    ·show nameS (bl ⟨(byt u.2.1).toArray⟩)=true
     exact hn
    ·show (!(decide ((2:Int)=2) && rsvB (byt u.2.1)) && [].all id)=true
     rw [h1.2];rfl
    ·show (decide ((byt u.2.1).toArray.size≤1000) && [].all id)=true
     rw [decide_eq_true (by simp;omega)];rfl
   ·rw [if_neg h1] at hx;cases hx
 ·unfold leafY at hx
  have:cntX x=1:=by
   split at hx
   ·obtain rfl:=Option.some.inj hx;rfl
   ·split at hx
    ·obtain rfl:=Option.some.inj hx;rfl
    ·cases hx
  omega
 ·have hx:=hq.1
  refine ⟨cl_mk1 hk hx.cl,?_,?_,?_⟩
  ·have:sdC (mk1 k x).1 (mk1 k x).2=true:=by
    show sdC (x.1+1) (mkT k 0 ⟨#[]⟩ [x.2])=true
    rw [sdC_mk,if_neg (by omega),if_neg (by omega),if_pos hk]
    simp [hx.sd]
   exact this
  ·show plC (x.1+1) (mkT k 0 ⟨#[]⟩ [x.2])=true
   rw [plC_mk,decide_eq_false (by omega:¬ k=2)]
   simp [hx.pl]
  ·show shrt 1000 (x.1+1) (mkT k 0 ⟨#[]⟩ [x.2])=true
   rw [shrt_mk,size0]
   simp [hx.sh]
 ·have e:cntX (mk1 k x)=cntX x+0+1:=rfl
  have:=hq.2
  omega
 ·have hx:=hq.1
  have hy:=hq'.1
  obtain ⟨ho,hl2⟩:=lv_opr hne
  refine ⟨cl_mk2 hx.cl hy.cl,?_,?_,?_⟩
  ·have:=foldS_mk2 (fun (k n:Int) (s:ByteArray) (l:List Bool)=>if k=1 then decide (0≤n) && decide (n≤1000000000) else if k=2 then nameS (bl s) else if k=3∨k=4 then l.all id else if k=5 then opr s && l.all id else false) ⟨w.2.toArray⟩ x y
   refine Eq.trans this ?_
   rw [if_neg (by decide),if_neg (by decide),if_neg (by decide),if_pos rfl,ho]
   show (true && (sdC x.1 x.2 && (sdC y.1 y.2 && true)))=true
   rw [hx.sd,hy.sd];rfl
  ·have:=foldS_mk2 (fun (k _:Int) (s:ByteArray) (l:List Bool)=>!(decide (k=2) && rsvB s.data.toList) && l.all id) ⟨w.2.toArray⟩ x y
   refine Eq.trans this ?_
   show (!(false && _) && (plC x.1 x.2 && (plC y.1 y.2 && true)))=true
   rw [hx.pl,hy.pl];rfl
  ·have:=foldS_mk2 (fun (_ _:Int) (s:ByteArray) (l:List Bool)=>decide (s.size≤1000) && l.all id) ⟨w.2.toArray⟩ x y
   refine Eq.trans this ?_
   show (decide ((w.2.toArray).size≤1000) && (shrt 1000 x.1 x.2 && (shrt 1000 y.1 y.2 && true)))=true
   rw [hx.sh,hy.sh,decide_eq_true (by simp;omega)];rfl
 ·have h1:=hq.2
  have h2:=hq'.2
  rw [cntX_mk2]
  omega
/-- Nothing but block X has turned, and new blocks. -/
abbrev Fx (X:Nat) (w w':World):Prop:=w.grownBy w' (some X)
theorem Fx.refl (X:Nat) (w:World):Fx X w w:=⟨rfl,rfl,rfl,Nat.le_refl _,fun _ _ _=>rfl⟩
theorem Fx.trans {X:Nat}{a b c:World}(h:Fx X a b) (k:Fx X b c):Fx X a c:=
 ⟨k.os.trans h.os,k.tape.trans h.tape,k.output.trans h.output,Nat.le_trans h.size k.size,fun j hj hne=>(k.block j (Nat.lt_of_lt_of_le hj h.size) hne).trans (h.block j hj hne)⟩
theorem Fx.of {X B:Nat}{a b:World}(h:Below B a b) (hB:a.heap.size≤B):Fx X a b:=⟨h.os,h.tape,h.output,h.size,fun k hk _=>h.block k (by omega)⟩
theorem Fx.setX {X i:Nat}{a b:World}(h:Fx X a b) (u:Value):Fx X a (b.setCell ⟨X,i,none⟩ u):=
 ⟨h.os,h.tape,h.output,by simpa using h.size,fun k hk hne=>(Below.heap_setCell _ _ _ _ (fun e=>hne (congrArg some e))).trans (h.block k hk hne)⟩
theorem Fx.drewN {X:Nat}{a b:World}(h:Fx X a b) (m:Nat):Fx X a (b.drewN m):=⟨h.os,h.tape,h.output,h.size,h.block⟩
theorem Fx.drew {X:Nat}{a b:World}(h:Fx X a b):Fx X a b.drew:=⟨h.os,h.tape,h.output,h.size,h.block⟩
theorem Fx.alloc {X:Nat}{a b:World}(h:Fx X a b) (o:Obj):Fx X a (b.alloc o):=h.trans (Fx.of ((Below.refl b.heap.size b).alloc (Nat.le_refl _) o) (Nat.le_refl _))
/-- A new block's cells, written. -/
theorem Fx.setN {X N i:Nat}{a b:World}(h:Fx X a b) (hN:a.heap.size≤N) (u:Value):Fx X a (b.setCell ⟨N,i,none⟩ u):=
 ⟨h.os,h.tape,h.output,by simpa using h.size,fun k hk hne=>(Below.heap_setCell _ _ _ _ (fun e=>by have:k=N:=e;omega)).trans (h.block k hk hne)⟩
/-- The words, in memory apart from X. -/
def RdL (w:World) (X:Nat) (a:Option Addr) (ws:List Wd):Prop:=∀ (i:Nat) (hi:i < ws.length),∃ g off,a=some ⟨g,off,none⟩∧g < X∧w.cell? ⟨g,off+i*4,none⟩=some (.int .i64 ((ws[i]).1:Int))∧w.cell? ⟨g,off+i*4+1,none⟩=some (.string (txt (ws[i]).2.1))∧w.cell? ⟨g,off+i*4+2,none⟩=some (.int .i64 (ws[i]).2.2.1)∧w.cell? ⟨g,off+i*4+3,none⟩=some (.int .i64 (ws[i]).2.2.2)
theorem RdL.fx {w w':World}{X:Nat}{a:Option Addr}{ws:List Wd}(h:RdL w X a ws) (hX:X < w.heap.size) (hf:Fx X w w'):RdL w' X a ws:=fun i hi=>by
 obtain ⟨g,off,h1,h3,c0,c1,c2,c3⟩:=h i hi
 have hb:w'.heap[g]?=w.heap[g]?:=hf.block g (by omega) (fun e=>by have:g=X:=Option.some.inj e;omega)
 have hc:∀ j,w'.cell? ⟨g,j,none⟩=w.cell? ⟨g,j,none⟩:=fun j=>World.cell?_of_block (w:=w) (a:=⟨g,j,none⟩) hb
 exact ⟨g,off,h1,h3,(hc _).trans c0,(hc _).trans c1,(hc _).trans c2,(hc _).trans c3⟩
/-- The reader in block X. -/
structure Rr (w:World) (X:Nat) (a:Option Addr) (cap:Nat) (ws:List Wd) (n:Nat) (b:Int):Prop where
 c0:w.cell? ⟨X,0,none⟩=some (.slice a ws.length cap)
 c1:w.cell? ⟨X,1,none⟩=some (.int .i64 (n:Int))
 c2:w.cell? ⟨X,2,none⟩=some (.int .i64 b)
 f1:w.frozen? ⟨X,1,none⟩=false
 f2:w.frozen? ⟨X,2,none⟩=false
 l:RdL w X a ws
theorem Rr.lt {w:World}{X:Nat}{a:Option Addr}{cap:Nat}{ws:List Wd}{n:Nat}{b:Int}(h:Rr w X a cap ws n b):X < w.heap.size:=World.block_lt_of_cell? w _ h.c0
theorem Rr.on {w w':World}{X:Nat}{a:Option Addr}{cap:Nat}{ws:List Wd}{n:Nat}{b:Int}(h:Rr w X a cap ws n b) (hb:Below w.heap.size w w'):Rr w' X a cap ws n b:=by
 have hX:=h.lt
 have hc:∀ i,w'.cell? ⟨X,i,none⟩=w.cell? ⟨X,i,none⟩:=fun i=>hb.cell (p:=⟨X,i,none⟩) hX
 have hf:∀ i,w'.frozen? ⟨X,i,none⟩=w.frozen? ⟨X,i,none⟩:=fun i=>hb.frozen (p:=⟨X,i,none⟩) hX
 exact ⟨(hc 0).trans h.c0,(hc 1).trans h.c1,(hc 2).trans h.c2,(hf 1).trans h.f1,(hf 2).trans h.f2,h.l.fx hX (Fx.of hb (Nat.le_refl _))⟩
theorem Rr.set1 {w:World}{X:Nat}{a:Option Addr}{cap:Nat}{ws:List Wd}{n:Nat}{b:Int}(h:Rr w X a cap ws n b) (n':Nat):Rr (w.setCell ⟨X,1,none⟩ (.int .i64 (n':Int))) X a cap ws n' b:=
 ⟨cell_far4 (by omega) h.c0,cell_same4 h.c1,cell_far4 (by omega) h.c2,(World.frozen?_setCell _ _ _ _).trans h.f1,(World.frozen?_setCell _ _ _ _).trans h.f2,h.l.fx h.lt ((Fx.refl X w).setX _)⟩
theorem Rr.set2 {w:World}{X:Nat}{a:Option Addr}{cap:Nat}{ws:List Wd}{n:Nat}{b:Int}(h:Rr w X a cap ws n b) (b':Int):Rr (w.setCell ⟨X,2,none⟩ (.int .i64 b')) X a cap ws n b':=
 ⟨cell_far4 (by omega) h.c0,cell_far4 (by omega) h.c1,cell_same4 h.c2,(World.frozen?_setCell _ _ _ _).trans h.f1,(World.frozen?_setCell _ _ _ _).trans h.f2,h.l.fx h.lt ((Fx.refl X w).setX _)⟩
theorem draws (w:World) (m:Nat):Below w.heap.size w (w.drewN m):=⟨rfl,rfl,rfl,Nat.le_refl _,fun _ _=>rfl⟩
structure Wk (ws:List Wd) (cap:Nat):Prop where
 l:ws.length≤3000
 c:ws.length≤cap
 m:cap≤maxLen
 o:∀ x∈ws,OneW x.1 x.2.1
theorem Rr.far {w:World}{X N i:Nat}{a:Option Addr}{cap:Nat}{ws:List Wd}{n:Nat}{b:Int}(h:Rr w X a cap ws n b) (hN:X < N) (u:Value):Rr (w.setCell ⟨N,i,none⟩ u) X a cap ws n b:=by
 refine ⟨cell_far4 (by omega) h.c0,cell_far4 (by omega) h.c1,cell_far4 (by omega) h.c2,(World.frozen?_setCell _ _ _ _).trans h.f1,(World.frozen?_setCell _ _ _ _).trans h.f2,fun j hj=>?_⟩
 obtain ⟨g,off,h1,h3,d0,d1,d2,d3⟩:=h.l j hj
 exact ⟨g,off,h1,h3,cell_far4 (by omega) d0,cell_far4 (by omega) d1,cell_far4 (by omega) d2,cell_far4 (by omega) d3⟩
/-- A block of cells that may be written. -/
def Bn (w:World) (Y:Nat) (cs:List Value):Prop:=∀ j u,cs[j]?=some u→w.cell? ⟨Y,j,none⟩=some u∧w.frozen? ⟨Y,j,none⟩=false
theorem Bn.lt {w:World}{Y:Nat}{c:Value}{cs:List Value}(h:Bn w Y (c :: cs)):Y < w.heap.size:=World.block_lt_of_cell? w _ (h 0 c rfl).1
theorem frozen_of_block {w w':World}{Y j:Nat}(h:w'.heap[Y]?=w.heap[Y]?):w'.frozen? ⟨Y,j,none⟩=w.frozen? ⟨Y,j,none⟩:=by
 unfold World.frozen?
 rw [h]
theorem Bn.blk {w w':World}{Y:Nat}{cs:List Value}(h:Bn w Y cs) (hb:w'.heap[Y]?=w.heap[Y]?):Bn w' Y cs:=fun j u hu=>
 ⟨keep_cell (p:=⟨Y,j,none⟩) hb (h j u hu).1,(frozen_of_block hb).trans (h j u hu).2⟩
theorem Bn.on {w w':World}{Y:Nat}{c:Value}{cs:List Value}(h:Bn w Y (c :: cs)) (hb:Below w.heap.size w w'):Bn w' Y (c :: cs):=h.blk (hb.block Y h.lt)
theorem Bn.fx {w w':World}{X Y:Nat}{c:Value}{cs:List Value}(h:Bn w Y (c :: cs)) (hf:Fx X w w') (hne:Y≠X):Bn w' Y (c :: cs):=h.blk (hf.block Y h.lt (fun e=>hne (Option.some.inj e)))
theorem Bn.far {w:World}{Y X i:Nat}{cs:List Value}(h:Bn w Y cs) (hne:X≠Y) (v:Value):Bn (w.setCell ⟨X,i,none⟩ v) Y cs:=h.blk (Below.heap_setCell _ _ _ _ (fun e=>hne e.symm))
theorem Bn.set {w:World}{Y i:Nat}{cs:List Value}(h:Bn w Y cs) (hi:i < cs.length) (v:Value):Bn (w.setCell ⟨Y,i,none⟩ v) Y (cs.set i v):=fun j u hu=>by
 refine ⟨?_,(World.frozen?_setCell _ _ _ _).trans ?_⟩
 ·by_cases hj:i=j
  ·subst hj
   rw [List.getElem?_set_self hi] at hu
   obtain rfl:=Option.some.inj hu
   exact cell_same4 (h i _ (List.getElem?_eq_getElem hi)).1
  ·rw [List.getElem?_set_ne hj] at hu
   exact cell_far4 (by omega) (h j u hu).1
 ·have hl:j < cs.length:=by
   have:=(List.getElem?_eq_some_iff.1 hu).1
   rwa [List.length_set] at this
  exact (h j _ (List.getElem?_eq_getElem hl)).2
theorem Bn.drew {w:World}{Y:Nat}{cs:List Value}(h:Bn w Y cs):Bn w.drew Y cs:=h
theorem Bn.new (w:World) (cs:List Value) (t:TypeId) (n:Nat) (hn:n=w.heap.size):Bn (w.alloc (.cells cs.toArray t)) n cs:=by
 subst hn
 intro j u hu
 refine ⟨?_,by simp⟩
 rw [World.cell?_alloc_new]
 simpa using hu
/-- The slice v reads as the list l, k cells an element. -/
def RdK {α:Type}(ok:Nat→Prop) (w:World) (k:Nat) (R:α→List Value→Prop) (l:List α) (v:Value):Prop:=
 ∃ a cap,v=.slice a l.length cap∧l.length≤cap∧cap≤maxLen∧
  ∀ (i:Nat) (hi:i < l.length),∃ b off cs,a=some ⟨b,off,none⟩∧ok b∧b < w.heap.size∧cs.length=k∧R l[i] cs∧∀ j u,cs[j]?=some u→w.cell? ⟨b,off+i*k+j,none⟩=some u
theorem rdK_none {α:Type}(ok:Nat→Prop) (w:World) (k:Nat) (R:α→List Value→Prop):RdK ok w k R [] (.slice none 0 0):=⟨none,0,rfl,by simp,by simp [maxLen],fun i hi=>absurd hi (by simp)⟩
theorem RdK.keep {α:Type}{ok ok':Nat→Prop}{w w':World}{k:Nat}{R R':α→List Value→Prop}{l:List α}{v:Value}(h:RdK ok w k R l v) (hR:∀ x∈l,∀ u,R x u→R' x u) (hk:∀ b,ok b→b < w.heap.size→ok' b∧w'.heap[b]?=w.heap[b]?):RdK ok' w' k R' l v:=by
 obtain ⟨a,cap,rfl,hc,hm,hcell⟩:=h
 refine ⟨a,cap,rfl,hc,hm,fun i hi=>?_⟩
 obtain ⟨b,off,cs,ha,ho,hb,hl,hr,hcs⟩:=hcell i hi
 obtain ⟨ho',hs⟩:=hk _ ho hb
 refine ⟨b,off,cs,ha,ho',?_,hl,hR _ (List.getElem_mem hi) _ hr,fun j u hu=>keep_cell (p:=⟨b,off+i*k+j,none⟩) hs (hcs j u hu)⟩
 rcases Nat.lt_or_ge b w'.heap.size with h | h
 ·exact h
 ·rw [Array.getElem?_eq_none h,Array.getElem?_eq_getElem hb] at hs
  cases hs
theorem RdK.form {α:Type}{ok:Nat→Prop}{w:World}{k:Nat}{R:α→List Value→Prop}{l:List α}{v:Value}(h:RdK ok w k R l v):∃ a cap,v=.slice a l.length cap∧l.length≤cap∧cap≤maxLen:=by
 obtain ⟨a,cap,h1,h2,h3,_⟩:=h
 exact ⟨a,cap,h1,h2,h3⟩
/-- A reading that stays where its blocks stay. -/
def Kp {α:Type}(R:(Nat→Prop)→World→α→List Value→Prop):Prop:=∀ ⦃ok ok':Nat→Prop⦄ ⦃w w':World⦄ ⦃x:α⦄ ⦃cs:List Value⦄,R ok w x cs→(∀ b,ok b→b < w.heap.size→ok' b∧w'.heap[b]?=w.heap[b]?)→R ok' w' x cs
/-- The slice v is the call's own, from block base on, of k cells an element, and holds l; what lies behind its cells lies apart. -/
def OwnK {α:Type}(w:World) (base e k:Nat) (R:(Nat→Prop)→World→α→List Value→Prop) (v:Value) (l:List α):Prop:=
 ∃ qs:List (List Value),w.ownsRow base e k v l.length qs.flatten∧qs.length=l.length∧∀ (i:Nat) (h:i < l.length) (h':i < qs.length),(qs[i]).length=k∧R (fun b=>base≤b∧v.ownBlock≠some b) w l[i] qs[i]
theorem ownK_nil {α:Type}(w:World) (base e k:Nat) (R:(Nat→Prop)→World→α→List Value→Prop):OwnK w base e k R (.slice none 0 0) []:=⟨[],World.ownsRow_nil w base e k,rfl,fun i h=>absurd h (by simp)⟩
theorem OwnK.keep {α:Type}{w w':World}{base e k:Nat}{R:(Nat→Prop)→World→α→List Value→Prop}{v:Value}{l:List α}(hR:Kp R) (h:OwnK w base e k R v l) (hk:∀ b,base≤b→b < w.heap.size→w'.heap[b]?=w.heap[b]?):OwnK w' base e k R v l:=by
 obtain ⟨qs,ho,hl,hr⟩:=h
 refine ⟨qs,ownsRow_keep ho (fun g hg=>?_),hl,fun i h h'=>⟨(hr i h h').1,hR (hr i h h').2 (fun b hb hlt=>⟨hb,hk b hb.1 hlt⟩)⟩⟩
 obtain ⟨a,b⟩:=ownsRow_lt ho g hg
 exact hk g a b
theorem OwnK.on {α:Type}{w w':World}{base e k:Nat}{R:(Nat→Prop)→World→α→List Value→Prop}{v:Value}{l:List α}(hR:Kp R) (h:OwnK w base e k R v l) (hb:Below w.heap.size w w'):OwnK w' base e k R v l:=h.keep hR (fun b _ hlt=>hb.block b hlt)
theorem OwnK.fx {α:Type}{w w':World}{base e k X:Nat}{R:(Nat→Prop)→World→α→List Value→Prop}{v:Value}{l:List α}(hR:Kp R) (h:OwnK w base e k R v l) (hf:Fx X w w') (hX:X < base):OwnK w' base e k R v l:=
 h.keep hR (fun b hb hlt=>hf.block b hlt (fun e=>by have:b=X:=Option.some.inj e;omega))
theorem OwnK.set {α:Type}{w:World}{base e k:Nat}{R:(Nat→Prop)→World→α→List Value→Prop}{v:Value}{l:List α}(hR:Kp R) (h:OwnK w base e k R v l) {X i:Nat}(hX:X < base) (u:Value):OwnK (w.setCell ⟨X,i,none⟩ u) base e k R v l:=
 h.keep hR (fun b hb _=>Below.heap_setCell _ _ _ _ (fun e=>by have:b=X:=e;omega))
theorem OwnK.form {α:Type}{w:World}{base e k:Nat}{R:(Nat→Prop)→World→α→List Value→Prop}{v:Value}{l:List α}(h:OwnK w base e k R v l):∃ a cap,v=.slice a l.length cap∧l.length≤cap∧cap≤maxLen:=by
 obtain ⟨qs,ho,_⟩:=h
 rcases ho.2 with ⟨h1,h2⟩ | ⟨g,cap,cur,h1,_,_,h3,h4,_⟩
 ·exact ⟨none,0,by rw [h1,h2],by omega,by simp [maxLen]⟩
 ·exact ⟨_,_,h1,h3,h4⟩
/-- One more. The new one's memory lies from lo on, and the old row's block below. -/
theorem OwnK.snoc {α:Type}{w w':World}{base e k lo n:Nat}{R:(Nat→Prop)→World→α→List Value→Prop}{v v':Value}{l:List α}{p:α}{cs:List Value}{qs:List (List Value)}(hR:Kp R) (hk:cs.length=k)
  (hn:l.length=n) (ho:w.ownsRow base e k v n qs.flatten) (hl:qs.length=l.length) (hr:∀ (i:Nat) (h:i < l.length) (h':i < qs.length),(qs[i]).length=k∧R (fun b=>base≤b∧v.ownBlock≠some b) w l[i] qs[i])
  (ho':w'.ownsRow base e k v' (n+1) (qs.flatten++cs)) (hg:w.grownBy w' v.ownBlock) (hat:v'.ownBlock=v.ownBlock∨v'.ownBlock=some w.heap.size)
  (hp:R (fun b=>lo≤b) w p cs) (hlo:base≤lo) (hv:∀ x,v.ownBlock=some x→x < lo):OwnK w' base e k R v' (l++[p]):=by
 subst hn
 have key:∀ b,base≤b∧v.ownBlock≠some b→b < w.heap.size→(base≤b∧v'.ownBlock≠some b)∧w'.heap[b]?=w.heap[b]?:=fun b hb hlt=>by
  refine ⟨⟨hb.1,fun e=>?_⟩,hg.block b hlt (fun e=>hb.2 e.symm)⟩
  rcases hat with h | h
  ·exact hb.2 (h ▸ e)
  ·rw [h] at e;have:w.heap.size=b:=Option.some.inj e;omega
 refine ⟨qs++[cs],?_,by simp [hl],fun i h h'=>?_⟩
 ·rw [List.flatten_append,List.length_append]
  simpa using ho'
 ·rcases Nat.lt_or_ge i l.length with hi | hi
  ·rw [List.getElem_append_left hi,List.getElem_append_left (by omega)]
   exact ⟨(hr i hi (by omega)).1,hR (hr i hi (by omega)).2 key⟩
  ·have:i=l.length:=by simp at h;omega
   subst this
   have e1:(l++[p])[l.length]=p:=by simp
   have e2:(qs++[cs])[l.length]'h'=cs:=by simp [← hl]
   rw [e1,e2]
   exact ⟨hk,hR hp (fun b hb hlt=>key b ⟨by omega,fun e=>by have:=hv b e;omega⟩ hlt)⟩
theorem flat_at {k:Nat}:∀ (qs:List (List Value)) (i j:Nat) (h:i < qs.length) (u:Value),(∀ (i:Nat) (h:i < qs.length),(qs[i]).length=k)→(qs[i])[j]?=some u→qs.flatten[i*k+j]?=some u
 | [],i,j,h,u,_,_=>by simp at h
 | x :: t,0,j,h,u,hk,hu=>by
  have hu':x[j]?=some u:=hu
  have hj:=(List.getElem?_eq_some_iff.1 hu').1
  rw [List.flatten_cons,Nat.zero_mul,Nat.zero_add,List.getElem?_append_left hj]
  exact hu'
 | x :: t,i+1,j,h,u,hk,hu=>by
  have hx:x.length=k:=hk 0 (by simp)
  have e:(i+1)*k+j=x.length+(i*k+j):=by rw [hx,Nat.succ_mul];omega
  rw [List.flatten_cons,e,List.getElem?_append_right (by omega),Nat.add_sub_cancel_left]
  exact flat_at t i j (by simpa using h) u (fun i h=>hk (i+1) (by simpa using h)) hu
/-- It reads as the list. -/
theorem OwnK.rd {α:Type}{w:World}{base e k:Nat}{R:(Nat→Prop)→World→α→List Value→Prop}{v:Value}{l:List α}(hR:Kp R) (h:OwnK w base e k R v l):RdK (fun b=>base≤b) w k (R (fun b=>base≤b) w) l v:=by
 obtain ⟨qs,ho,hl,hr⟩:=h
 have hc:=fun g=>World.ownsRow.cells ho (g:=g)
 rcases ho.2 with ⟨rfl,hn⟩ | ⟨g,cap,cur,rfl,hb,hg,hnc,hcm,hcs,htake⟩
 ·have hx:l=[]:=List.eq_nil_of_length_eq_zero hn
  subst hx
  exact rdK_none _ w k _
 ·refine ⟨some ⟨g,0,none⟩,cap,rfl,hnc,hcm,fun i hi=>⟨g,0,qs[i],rfl,hb,(Array.getElem?_eq_some_iff.1 hg).1,(hr i hi (by omega)).1,hR (hr i hi (by omega)).2 (fun b hb _=>⟨hb.1,rfl⟩),fun j u hu=>?_⟩⟩
  have:=hc g rfl (i*k+j) u (flat_at qs i j (by omega) u (fun i h=>(hr i (by omega) h).1) hu)
  rw [add_plain] at this
  rw [Nat.zero_add]
  rwa [Nat.zero_add] at this
/-- Read from a lower block on. -/
theorem RdK.low {α:Type}{w:World}{base lo k:Nat}{R:(Nat→Prop)→World→α→List Value→Prop}{v:Value}{l:List α}(hR:Kp R) (h:RdK (fun b=>base≤b) w k (R (fun b=>base≤b) w) l v) (hlo:lo≤base):RdK (fun b=>lo≤b) w k (R (fun b=>lo≤b) w) l v:=
 h.keep (fun x _ u hu=>hR hu (fun b hb _=>⟨by omega,rfl⟩)) (fun b hb _=>⟨by omega,rfl⟩)
theorem RdK.stay {α:Type}{ok ok':Nat→Prop}{w w':World}{k:Nat}{R:(Nat→Prop)→World→α→List Value→Prop}{v:Value}{l:List α}(hR:Kp R) (h:RdK ok w k (R ok w) l v) (hk:∀ b,ok b→b < w.heap.size→ok' b∧w'.heap[b]?=w.heap[b]?):RdK ok' w' k (R ok' w') l v:=
 h.keep (fun x _ u hu=>hR hu hk) hk
section
variable {nb:List UInt8→Int}{rsv:List UInt8→Bool}{l:List Tk}
end
def fmX (x:Sx):Bool:=fmC x.1 x.2
/-- What the words are read as. -/
def rdC (l:List Tk):Rd3:=psr (valB 0) rsvB l (7*l.length+6) 1 0 (-1)
/-- The expression that the words begin with, how many of them it is, or an error. -/
def takeC (l:List Tk):Sx × Nat × Int:=if 0≤(rdC l).2.2 then (noX,(rdC l).2.2.toNat,12) else if fmX (rdC l).1=true then ((rdC l).1,(rdC l).2.1,0) else (noX,0,13)
theorem aroP_len (c:Nat × List Pc) (m:Nat):(txP (aroP c m)).length≤(txP c.2).length+2:=by
 unfold aroP;split
 ·rw [txP_cons,txP_app,List.length_append,List.length_append]
  show 1+(_+1)≤_
  omega
 ·omega
theorem op_len {s:List UInt8}(h:opB s):s.length≤2:=by
 rcases h with rfl | rfl | rfl | rfl | rfl | rfl | rfl | rfl | rfl <;> decide
theorem pcs_len:∀ (d:Nat) (t:T d),Cl d t→rtT dcN d t→(txP (pcs dcN d t).2).length≤100*cnt d t
 | 0,t,_,_=>Empty.elim t
 | d+1,t,hc,hr=>by
  rcases hc.cases with ⟨n,rfl⟩ | ⟨s,rfl⟩ | ⟨k,p,hk,rfl,hp⟩ | ⟨s,p,q,rfl,hp,hq⟩ | rfl
  ·have hn:numB (dcN n)=true:=hr.1 rfl
   have:=(num_len hn).1
   show (dcN n++[]).length≤100*1
   rw [List.append_nil];omega
  ·have hn:nameS s.data.toList=true:=hr.2.1 rfl
   have:=name_len hn
   show (s.data.toList++[]).length≤100*1
   rw [List.append_nil];omega
  ·have hrp:rtT dcN d p:=by
    have h2:∀ z∈[fold (rtF dcN) d p],z:=hr.2.2.2.2
    exact h2 (fold (rtF dcN) d p) List.mem_cons_self
   have ih:=pcs_len d p hp hrp
   have ha:=aroP_len (pcs dcN d p) 6
   have e:(txP (pcs dcN (d+1) (mkT k 0 ⟨#[]⟩ [p]:T (d+1))).2).length=(txP (aroP (pcs dcN d p) 6)).length+1:=by rcases hk with rfl | rfl <;> rfl
   rw [e,cnt_mk]
   show _≤100*(cnt d p+0+1)
   omega
  ·have h2:∀ z∈[fold (rtF dcN) d p,fold (rtF dcN) d q],z:=hr.2.2.2.2
   have ho:s.data.toList.length≤2:=op_len (hr.2.2.1 rfl:opB s.data.toList)
   have i1:=pcs_len d p hp (h2 (fold (rtF dcN) d p) List.mem_cons_self)
   have i2:=pcs_len d q hq (h2 (fold (rtF dcN) d q) (List.mem_cons_of_mem _ List.mem_cons_self))
   have a1:=aroP_len (pcs dcN d p) (if lv s.data.toList=3 then 4 else lv s.data.toList)
   have a2:=aroP_len (pcs dcN d q) (lv s.data.toList+1)
   have e:(pcs dcN (d+1) (mkT 5 0 s [p,q]:T (d+1))).2=aroP (pcs dcN d p) (if lv s.data.toList=3 then 4 else lv s.data.toList)++none :: some (3,s.data.toList) :: none :: aroP (pcs dcN d q) (lv s.data.toList+1):=rfl
   rw [e,cnt_mk,txP_app,txP_cons,txP_cons,txP_cons,List.length_append,List.length_append,List.length_append,List.length_append]
   show _+(1+(s.data.toList.length+(1+_)))≤100*(cnt d p+(cnt d q+0)+1)
   omega
  ·have:(1:Int)≤0∧(0:Int)≤5:=hr.2.2.2.1
   omega
theorem nd_cnt:∀ (d:Nat) (t:T d),ndC d t=min (cnt d t) 41
 | 0,t=>Empty.elim t
 | d+1,t=>by
  obtain ⟨k,n,s,ps,rfl⟩:=T.open t
  rw [ndC_mk,cnt_mk]
  have:∀ l:List (T d),min ((l.map (ndC d)).sum+1) 41=min ((l.map (cnt d)).sum+1) 41:=fun l=>by
   induction l with
   | nil=>rfl
   | cons p r ih=>
    have:=nd_cnt d p
    simp only [List.map_cons,List.sum_cons]
    omega
  exact this ps
theorem fm_parts {d:Nat}{t:T d}(h:fmC d t=true):cnt d t≤40∧sdC d t=true:=by
 unfold fmC at h
 simp only [Bool.and_eq_true,decide_eq_true_eq] at h
 have:=nd_cnt d t
 exact ⟨by omega,h.2⟩
/-- The text of an expression. -/
def txtC (d:Nat) (t:T d):List UInt8:=txP (pcs dcN d t).2
end Go.Proofs.YtlgnahpfggagoaaGreatDoor
/- Charts, and how they are read of words, as the document's reader does. Math alone. -/
namespace Go.Proofs.YtlgnahpfggagoaaGreatDoor
open Go.RowKit Go.Lib
set_option linter.unusedVariables false
abbrev Pl:=Int × Int
/-- An on: event, guard (is there one, and which), target, sets, place. -/
abbrev OnC:=List UInt8 × (Bool × Sx) × List UInt8 × List (List UInt8 × Sx) × Pl
/-- A state but for what lies in it: name, place, all, end, do, undo, where, retries, ons. -/
abbrev HdC:=(List UInt8 × Pl) × (Bool × Bool) × (List UInt8 × List UInt8) × (Int × Int) × List OnC
/-- States that lie less than d deep in one another. -/
def St:Nat→Type
 | 0=>Empty
 | d+1=>HdC × List (St d)
/-- The reader: the words that are left, the place of the first error, the error. -/
abbrev RsC:=List Wd × Pl × Int
def wPl (w:Wd):Pl:=(w.2.2.1,w.2.2.2)
section
variable (fin:Pl)
def hereR (r:RsC):Pl:=match r.1 with | []=>fin | w :: _=>wPl w
def failC (e:Int) (p:Pl) (r:RsC):RsC:=if r.2.2=0 then (r.1,p,e) else r
def isC (s:List UInt8) (r:RsC):Bool:=decide (r.2.2=0) && (match r.1 with | []=>false | w :: _=>decide ((tkW w).2=s))
def takeR (s:List UInt8) (r:RsC):RsC:=if isC s r=true then (r.1.tail,r.2) else failC 12 (hereR fin r) r
/-- Is it a name that is not reserved? -/
def plainB (s:List UInt8):Bool:=nameS s && !rsvB s
def nameR (r:RsC):(List UInt8 × Pl) × RsC:=match r.2.2=0,r.1 with
 | _,[]=>(([],(0,0)),failC 12 (hereR fin r) r)
 | _,w :: l=>if r.2.2=0∧plainB (tkW w).2=true then (((tkW w).2,wPl w),(l,r.2)) else (([],(0,0)),failC 12 (hereR fin r) r)
def numR (r:RsC):Int × RsC:=match r.1 with
 | []=>(0,failC 12 (hereR fin r) r)
 | w :: l=>if r.2.2=0∧w.1=2 then (valB 0 (tkW w).2,(l,r.2)) else (0,failC 12 (hereR fin r) r)
def exprR (r:RsC):Sx × RsC:=if r.2.2≠0 then (noX,r) else
 if (takeC (r.1.map tkW)).2.2=0 then ((takeC (r.1.map tkW)).1,(r.1.drop (takeC (r.1.map tkW)).2.1,r.2)) else
 if (takeC (r.1.map tkW)).2.2=13 then ((takeC (r.1.map tkW)).1,failC 13 (hereR fin r) r) else
 ((takeC (r.1.map tkW)).1,failC (takeC (r.1.map tkW)).2.2 (hereR fin (r.1.drop (takeC (r.1.map tkW)).2.1,r.2)) (r.1.drop (takeC (r.1.map tkW)).2.1,r.2))
def wOn:List UInt8:=[111,110]
def wIf:List UInt8:=[105,102]
def wGo:List UInt8:=[103,111]
def wSet:List UInt8:=[115,101,116]
def wAll:List UInt8:=[97,108,108]
def wEnd:List UInt8:=[101,110,100]
def wDo:List UInt8:=[100,111]
def wUndo:List UInt8:=[117,110,100,111]
def wAt:List UInt8:=[97,116]
def wRetries:List UInt8:=[114,101,116,114,105,101,115]
def wState:List UInt8:=[115,116,97,116,101]
def wChart:List UInt8:=[99,104,97,114,116]
def wVar:List UInt8:=[118,97,114]
/-- The sets behind an on; g bounds how many. -/
def setsR:Nat→List (List UInt8 × Sx)→RsC→List (List UInt8 × Sx) × RsC
 | 0,acc,r=>(acc,r)
 | g+1,acc,r=>if isC wSet r=true then
   let a:=nameR fin (takeR fin wSet r)
   let b:=exprR fin (takeR fin [61] a.2)
   setsR g (acc++[(a.1.1,b.1)]) b.2
  else (acc,r)
def onR (r:RsC):OnC × RsC:=
 let a:=nameR fin (takeR fin wOn r)
 let g:(Bool × Sx) × RsC:=if isC wIf a.2=true then ((fun x=>((true,x.1),x.2)) (exprR fin (takeR fin wIf a.2))) else ((false,noX),a.2)
 let t:=nameR fin (takeR fin wGo g.2)
 let s:=setsR fin (t.2.1.length+1) [] t.2
 ((a.1.1,g.1,t.1.1,s.1,a.1.2),s.2)
/-- What kind of state it is: all, end, do .. undo .. at .. retries, or nothing of these. -/
def kindR (r:RsC):((Bool × Bool) × (List UInt8 × List UInt8) × (Int × Int)) × RsC:=
 if isC wAll r=true then (((true,false),([],[]),(0,0)),takeR fin wAll r) else
 if isC wEnd r=true then (((false,true),([],[]),(0,0)),takeR fin wEnd r) else
 if isC wDo r=true then
  let a:=nameR fin (takeR fin wDo r)
  let b:=nameR fin (takeR fin wUndo a.2)
  let c:=numR fin (takeR fin wAt b.2)
  let e:=numR fin (takeR fin wRetries c.2)
  (((false,false),(a.1.1,b.1.1),(c.1,e.1)),e.2)
 else (((false,false),([],[]),(0,0)),r)
/-- The ons and states within a state, of a reader of inner states; g bounds how many. -/
def inR {α:Type}(inner:RsC→α × RsC):Nat→List OnC→List α→RsC→(List OnC × List α) × RsC
 | 0,os,ss,r=>((os,ss),r)
 | g+1,os,ss,r=>if r.2.2=0∧isC [125] r=false then
   if isC wOn r=true then inR inner g (os++[(onR fin r).1]) ss (onR fin r).2
   else inR inner g os (ss++[(inner r).1]) (inner r).2
  else ((os,ss),r)
/-- A state, k below the deepest that may be: at 0 all is refused. -/
def stR:(k:Nat)→RsC→St (k+1) × RsC
 | 0,r=>(((([],(0,0)),(false,false),([],[]),(0,0),[]),[]),failC (if isC wState r=true then 13 else 12) (hereR fin r) r)
 | k+1,r=>
  let a:=nameR fin (takeR fin wState r)
  let b:=kindR fin (takeR fin [123] a.2)
  let c:=inR fin (stR k) (b.2.1.length+1) [] [] b.2
  (((a.1,b.1.1,b.1.2.1,b.1.2.2,c.1.1),c.1.2),takeR fin [125] c.2)
/-- The variables; g bounds how many. -/
def varsR:Nat→List (List UInt8 × Int × Pl)→RsC→List (List UInt8 × Int × Pl) × RsC
 | 0,acc,r=>(acc,r)
 | g+1,acc,r=>if isC wVar r=true then
   let a:=nameR fin (takeR fin wVar r)
   let b:=takeR fin [61] a.2
   let n:=if isC [45] b=true then (fun x=>(-x.1,x.2)) (numR fin (takeR fin [45] b)) else numR fin b
   varsR g (acc++[(a.1.1,n.1,a.1.2)]) n.2
  else (acc,r)
def stsR:Nat→List (St 7)→RsC→List (St 7) × RsC
 | 0,acc,r=>(acc,r)
 | g+1,acc,r=>if r.2.2=0∧isC [125] r=false then stsR g (acc++[(stR fin 6 r).1]) (stR fin 6 r).2 else (acc,r)
end
/-- A chart: name, place, version, variables, states. -/
abbrev ChC:=(List UInt8 × Pl) × Int × List (List UInt8 × Int × Pl) × List (St 7)
def noC:ChC:=(([],(0,0)),0,[],[])
/-- The chart of words, or an error at a place. -/
def chR (fin:Pl) (ws:List Wd):ChC × Pl × Int:=
 let a:=nameR fin (takeR fin wChart (ws,(0,0),0))
 let n:=numR fin a.2
 let b:=takeR fin [123] n.2
 let v:=varsR fin (b.1.length+1) [] b
 let s:=stsR fin (v.2.1.length+1) [] v.2
 let e:=takeR fin [125] s.2
 let z:=if e.2.2=0∧e.1≠[] then failC 12 (hereR fin e) e else e
 if z.2.2=0 then ((a.1,n.1,v.1,s.1),(0,0),0) else (noC,z.2.1,z.2.2)
/-- The place behind a text. -/
def endP:List Ru→Int→Int→Pl
 | [],ln,co=>(ln,co)
 | u :: r,ln,co=>if u.1=10 then endP r (ln+1) 1 else endP r ln (co+1)
/-- The chart of a text. -/
def readC (s:List UInt8):ChC × Pl × Int:=
 if (wordsS s).2.2≠0 then (noC,(wordsS s).2.1,(wordsS s).2.2) else chR (endP (runes s) 1 1) (wordsS s).1
/-- Reading takes words away, or has an error. -/
theorem failC_len (e:Int) (p:Pl) (r:RsC):(failC e p r).1=r.1:=by unfold failC;split <;> rfl
theorem failC_bad {e:Int}(he:e≠0) (p:Pl) (r:RsC):(failC e p r).2.2≠0:=by
 unfold failC
 split
 ·exact he
 ·rename_i h;exact h
theorem takeR_len (fin:Pl) (s:List UInt8) (r:RsC):(takeR fin s r).1.length≤r.1.length:=by
 unfold takeR
 split
 ·rw [List.length_tail];omega
 ·rw [failC_len];exact Nat.le_refl _
theorem takeR_less (fin:Pl) {s:List UInt8}{r:RsC}(h:isC s r=true):(takeR fin s r).1.length < r.1.length:=by
 unfold takeR
 rw [if_pos h]
 unfold isC at h
 cases hr:r.1 with
 | nil=>rw [hr] at h;simp at h
 | cons w l=>simp
theorem nameR_len (fin:Pl) (r:RsC):(nameR fin r).2.1.length≤r.1.length:=by
 unfold nameR
 cases hr:r.1 with
 | nil=>simp only [failC_len,hr];exact Nat.le_refl _
 | cons w l=>
  simp only
  split
  ·simp
  ·simp only [failC_len,hr];exact Nat.le_refl _
theorem numR_len (fin:Pl) (r:RsC):(numR fin r).2.1.length≤r.1.length:=by
 unfold numR
 cases hr:r.1 with
 | nil=>simp only [failC_len,hr];exact Nat.le_refl _
 | cons w l=>
  simp only
  split
  ·simp
  ·simp only [failC_len,hr];exact Nat.le_refl _
theorem exprR_len (fin:Pl) (r:RsC):(exprR fin r).2.1.length≤r.1.length:=by
 unfold exprR
 split
 ·exact Nat.le_refl _
 ·split
  ·simp
  ·split
   ·simp only [failC_len];exact Nat.le_refl _
   ·simp only [failC_len,List.length_drop];omega
/-- No words more; without an error behind it there was none ahead. -/
def Goes (r r':RsC):Prop:=r'.1.length≤r.1.length∧(r'.2.2=0→r.2.2=0)
theorem Goes.refl (r:RsC):Goes r r:=⟨Nat.le_refl _,id⟩
theorem Goes.trans {a b c:RsC}(h:Goes a b) (k:Goes b c):Goes a c:=⟨Nat.le_trans k.1 h.1,fun e=>h.2 (k.2 e)⟩
theorem goes_fail (e:Int) (p:Pl) (r:RsC):Goes r (failC e p r):=by
 refine ⟨by rw [failC_len];exact Nat.le_refl _,fun h=>?_⟩
 unfold failC at h
 split at h
 ·assumption
 ·exact h
theorem isC_ok {s:List UInt8}{r:RsC}(h:isC s r=true):r.2.2=0:=by
 unfold isC at h
 simp only [Bool.and_eq_true,decide_eq_true_eq] at h
 exact h.1
theorem goes_take (fin:Pl) (s:List UInt8) (r:RsC):Goes r (takeR fin s r):=by
 by_cases h:isC s r=true
 ·exact ⟨takeR_len fin s r,fun _=>isC_ok h⟩
 ·unfold takeR;rw [if_neg h];exact goes_fail _ _ _
theorem take_ok {fin:Pl}{s:List UInt8}{r:RsC}(h:(takeR fin s r).2.2=0):isC s r=true:=by
 by_cases hi:isC s r=true
 ·exact hi
 ·unfold takeR at h
  rw [if_neg hi] at h
  exact absurd h (failC_bad (by decide) _ _)
theorem goes_name (fin:Pl) (r:RsC):Goes r (nameR fin r).2:=by
 refine ⟨nameR_len fin r,?_⟩
 unfold nameR
 cases hr:r.1 with
 | nil=>exact (goes_fail _ _ _).2
 | cons w l=>
  simp only
  split
  ·rename_i h;exact fun _=>h.1
  ·exact (goes_fail _ _ _).2
theorem goes_num (fin:Pl) (r:RsC):Goes r (numR fin r).2:=by
 refine ⟨numR_len fin r,?_⟩
 unfold numR
 cases hr:r.1 with
 | nil=>exact (goes_fail _ _ _).2
 | cons w l=>
  simp only
  split
  ·rename_i h;exact fun _=>h.1
  ·exact (goes_fail _ _ _).2
theorem goes_expr (fin:Pl) (r:RsC):Goes r (exprR fin r).2:=by
 refine ⟨exprR_len fin r,?_⟩
 unfold exprR
 split
 ·exact id
 ·rename_i h
  exact fun _=>by simpa using h
theorem goes_sets (fin:Pl):∀ (g:Nat) (acc:List (List UInt8 × Sx)) (r:RsC),Goes r (setsR fin g acc r).2
 | 0,acc,r=>Goes.refl r
 | g+1,acc,r=>by
  unfold setsR
  split
  ·exact ((goes_take fin wSet r).trans ((goes_name fin _).trans ((goes_take fin [61] _).trans (goes_expr fin _)))).trans (goes_sets fin g _ _)
  ·exact Goes.refl r
/-- Behind the word on. -/
theorem goes_on1 (fin:Pl) (r:RsC):Goes (takeR fin wOn r) (onR fin r).2:=by
 have h1:Goes (takeR fin wOn r) (nameR fin (takeR fin wOn r)).2:=goes_name fin _
 have h2:Goes (nameR fin (takeR fin wOn r)).2 (if isC wIf (nameR fin (takeR fin wOn r)).2=true then ((fun x=>((true,x.1),x.2)) (exprR fin (takeR fin wIf (nameR fin (takeR fin wOn r)).2)):(Bool × Sx) × RsC) else ((false,noX),(nameR fin (takeR fin wOn r)).2)).2:=by
  split
  ·exact (goes_take fin wIf _).trans (goes_expr fin _)
  ·exact Goes.refl _
 exact h1.trans (h2.trans ((goes_take fin wGo _).trans ((goes_name fin _).trans (goes_sets fin _ _ _))))
theorem goes_on (fin:Pl) (r:RsC):Goes r (onR fin r).2:=(goes_take fin wOn r).trans (goes_on1 fin r)
theorem on_less {fin:Pl}{r:RsC}(h:isC wOn r=true):(onR fin r).2.1.length < r.1.length:=Nat.lt_of_le_of_lt (goes_on1 fin r).1 (takeR_less fin h)
theorem goes_kind (fin:Pl) (r:RsC):Goes r (kindR fin r).2:=by
 unfold kindR
 split
 ·exact goes_take fin _ r
 ·split
  ·exact goes_take fin _ r
  ·split
   ·exact (goes_take fin wDo r).trans ((goes_name fin _).trans ((goes_take fin wUndo _).trans ((goes_name fin _).trans ((goes_take fin wAt _).trans ((goes_num fin _).trans ((goes_take fin wRetries _).trans (goes_num fin _)))))))
   ·exact Goes.refl r
theorem goes_in {α:Type}(fin:Pl) (inner:RsC→α × RsC) (hi:∀ r,Goes r (inner r).2):∀ (g:Nat) (os:List OnC) (ss:List α) (r:RsC),Goes r (inR fin inner g os ss r).2
 | 0,os,ss,r=>Goes.refl r
 | g+1,os,ss,r=>by
  unfold inR
  split
  ·split
   ·exact (goes_on fin r).trans (goes_in fin inner hi g _ _ _)
   ·exact (hi r).trans (goes_in fin inner hi g _ _ _)
  ·exact Goes.refl r
/-- Behind the word state. -/
theorem goes_st:∀ (fin:Pl) (k:Nat) (r:RsC),Goes r (stR fin k r).2∧((stR fin k r).2.2.2=0→(stR fin k r).2.1.length < r.1.length)
 | fin,0,r=>by
  refine ⟨goes_fail _ _ r,fun h=>?_⟩
  refine absurd h (failC_bad ?_ _ r)
  split <;> decide
 | fin,k+1,r=>by
  have h1:Goes (takeR fin wState r) (stR fin (k+1) r).2:=
   (goes_name fin _).trans ((goes_take fin [123] _).trans ((goes_kind fin _).trans ((goes_in fin (stR fin k) (fun r=>(goes_st fin k r).1) _ _ _ _).trans (goes_take fin [125] _))))
  exact ⟨(goes_take fin wState r).trans h1,fun h=>Nat.lt_of_le_of_lt h1.1 (takeR_less fin (take_ok (h1.2 h)))⟩
theorem goes_vars (fin:Pl):∀ (g:Nat) (acc:List (List UInt8 × Int × Pl)) (r:RsC),Goes r (varsR fin g acc r).2
 | 0,acc,r=>Goes.refl r
 | g+1,acc,r=>by
  unfold varsR
  split
  ·refine Goes.trans ((goes_take fin wVar r).trans ((goes_name fin _).trans (goes_take fin [61] _))) (Goes.trans ?_ (goes_vars fin g _ _))
   split
   ·exact (goes_take fin [45] _).trans (goes_num fin _)
   ·exact goes_num fin _
  ·exact Goes.refl r
section
variable (fin:Pl)
/-- The ons and states within a state, as the program reads them. -/
def inP {α:Type}(inner:RsC→α × RsC):Nat→List OnC→List α→RsC→(List OnC × List α) × RsC
 | 0,os,ss,r=>((os,ss),r)
 | g+1,os,ss,r=>if isC wOn r=true then inP inner g (os++[(onR fin r).1]) ss (onR fin r).2
  else if isC wState r=true then inP inner g os (ss++[(inner r).1]) (inner r).2
  else ((os,ss),r)
def zHd:HdC:=(([],(0,0)),(false,false),([],[]),(0,0),[])
/-- A state, k below the deepest that may be. -/
def stP:(k:Nat)→RsC→St (k+1) × RsC
 | 0,r=>((zHd,[]),failC 13 (hereR fin r) r)
 | k+1,r=>
  let a:=nameR fin (takeR fin wState r)
  let b:=kindR fin (takeR fin [123] a.2)
  let c:=inP fin (stP k) (b.2.1.length+1) [] [] b.2
  (((a.1,b.1.1,b.1.2.1,b.1.2.2,c.1.1),c.1.2),takeR fin [125] c.2)
def stsP:Nat→List (St 7)→RsC→List (St 7) × RsC
 | 0,acc,r=>(acc,r)
 | g+1,acc,r=>if isC wState r=true then stsP g (acc++[(stP fin 6 r).1]) (stP fin 6 r).2 else (acc,r)
end
/-- Behind an error nothing is read. -/
theorem is_err {r:RsC}(h:r.2.2≠0) (s:List UInt8):isC s r=false:=by unfold isC;rw [decide_eq_false h];rfl
theorem fail_err {r:RsC}(h:r.2.2≠0) (e:Int) (p:Pl):failC e p r=r:=by unfold failC;rw [if_neg h]
theorem take_err {r:RsC}(h:r.2.2≠0) (fin:Pl) (s:List UInt8):takeR fin s r=r:=by
 unfold takeR
 rw [is_err h,if_neg (by decide),fail_err h]
theorem name_err {r:RsC}(h:r.2.2≠0) (fin:Pl):nameR fin r=(([],(0,0)),r):=by
 unfold nameR
 cases hr:r.1 with
 | nil=>simp only;rw [fail_err h]
 | cons w l=>simp only;rw [if_neg (fun e=>h e.1),fail_err h]
theorem kind_err {r:RsC}(h:r.2.2≠0) (fin:Pl):kindR fin r=(((false,false),([],[]),(0,0)),r):=by
 unfold kindR
 rw [is_err h,is_err h,is_err h,if_neg (by decide),if_neg (by decide),if_neg (by decide)]
theorem in_err {α:Type}{r:RsC}(h:r.2.2≠0) (fin:Pl) (inner:RsC→α × RsC):∀ (g:Nat) (os:List OnC) (ss:List α),inR fin inner g os ss r=((os,ss),r)
 | 0,os,ss=>rfl
 | g+1,os,ss=>by unfold inR;rw [if_neg (fun e=>h e.1)]
theorem inP_err {α:Type}{r:RsC}(h:r.2.2≠0) (fin:Pl) (inner:RsC→α × RsC):∀ (g:Nat) (os:List OnC) (ss:List α),inP fin inner g os ss r=((os,ss),r)
 | 0,os,ss=>rfl
 | g+1,os,ss=>by unfold inP;rw [is_err h,is_err h,if_neg (by decide),if_neg (by decide)]
theorem sts_err {r:RsC}(h:r.2.2≠0) (fin:Pl):∀ (g:Nat) (acc:List (St 7)),stsR fin g acc r=(acc,r)
 | 0,acc=>rfl
 | g+1,acc=>by unfold stsR;rw [if_neg (fun e=>h e.1)]
theorem stsP_err {r:RsC}(h:r.2.2≠0) (fin:Pl):∀ (g:Nat) (acc:List (St 7)),stsP fin g acc r=(acc,r)
 | 0,acc=>rfl
 | g+1,acc=>by unfold stsP;rw [is_err h,if_neg (by decide)]
theorem take_not {r:RsC}{fin:Pl}{s:List UInt8}(h:isC s r=false):takeR fin s r=failC 12 (hereR fin r) r:=by
 unfold takeR;rw [h,if_neg (by decide)]
/-- Where no state begins the document's reader of states has an error. -/
theorem st_not {r:RsC}(fin:Pl) (h0:r.2.2=0) (h:isC wState r=false):∀ k,(stR fin k r).2=failC 12 (hereR fin r) r
 | 0=>by unfold stR;rw [h,if_neg (by decide)]
 | k+1=>by
  have e:(failC 12 (hereR fin r) r).2.2≠0:=failC_bad (by decide) _ _
  unfold stR
  simp only [take_not h]
  rw [name_err e]
  simp only
  rw [take_err e,kind_err e]
  simp only
  rw [in_err e,take_err e]
theorem is_one {r:RsC}{s t:List UInt8}(h:isC s r=true) (hne:s≠t):isC t r=false:=by
 unfold isC at h ⊢
 cases hr:r.1 with
 | nil=>rw [hr] at h;simp at h
 | cons w l=>
  rw [hr] at h
  simp only [Bool.and_eq_true,decide_eq_true_eq] at h
  simp only [h.2,decide_eq_false hne,Bool.and_false]
theorem in_eq {α:Type}(fin:Pl) (i1 i2:RsC→α × RsC) (hi:∀ r,isC wState r=true→(i2 r).2=(i1 r).2∧((i1 r).2.2.2=0→(i2 r).1=(i1 r).1)) (hn:∀ r:RsC,r.2.2=0→isC wState r=false→(i1 r).2=failC 12 (hereR fin r) r) :
  ∀ (g:Nat) (os:List OnC) (ss:List α) (r:RsC),takeR fin [125] (inP fin i2 g os ss r).2=takeR fin [125] (inR fin i1 g os ss r).2∧((takeR fin [125] (inR fin i1 g os ss r).2).2.2=0→(inP fin i2 g os ss r).1=(inR fin i1 g os ss r).1)
 | 0,os,ss,r=>⟨rfl,fun _=>rfl⟩
 | g+1,os,ss,r=>by
  by_cases hz:r.2.2≠0
  ·have h0:=hz
   rw [in_err h0,inP_err h0];exact ⟨rfl,fun _=>rfl⟩
  have h0:r.2.2=0:=Decidable.not_not.1 hz
  unfold inP inR
  by_cases h1:isC [125] r=true
  ·rw [is_one h1 (t:=wOn) (by decide),is_one h1 (t:=wState) (by decide),if_neg (by decide),if_neg (by decide),if_neg (by rw [h1];simp)]
   exact ⟨rfl,fun _=>rfl⟩
  have h1':isC [125] r=false:=by simpa using h1
  rw [if_pos (⟨h0,h1'⟩:r.2.2=0∧isC [125] r=false)]
  by_cases h2:isC wOn r=true
  ·rw [if_pos h2,if_pos h2]
   exact in_eq fin i1 i2 hi hn g _ _ _
  rw [if_neg h2,if_neg h2]
  by_cases h3:isC wState r=true
  ·rw [if_pos h3]
   obtain ⟨e1,e2⟩:=hi r h3
   rw [e1]
   by_cases h4:(i1 r).2.2.2=0
   ·rw [e2 h4]
    exact in_eq fin i1 i2 hi hn g _ _ _
   ·rw [in_err h4,inP_err h4]
    refine ⟨rfl,fun h=>?_⟩
    rw [take_err h4] at h
    exact absurd h h4
  ·rw [if_neg h3]
   have h3':isC wState r=false:=by simpa using h3
   have e:=hn r h0 h3'
   have eb:(failC 12 (hereR fin r) r).2.2≠0:=failC_bad (by decide) _ _
   rw [e,in_err eb,take_err eb]
   refine ⟨by rw [take_not h1'],fun h=>absurd h eb⟩
theorem st_eq (fin:Pl):∀ (k:Nat) (r:RsC),isC wState r=true→(stP fin k r).2=(stR fin k r).2∧((stR fin k r).2.2.2=0→(stP fin k r).1=(stR fin k r).1)
 | 0,r,h=>by
  unfold stP stR
  rw [h,if_pos rfl]
  exact ⟨rfl,fun _=>rfl⟩
 | k+1,r,h=>by
  have hin:=in_eq fin (stR fin k) (stP fin k) (fun r h=>st_eq fin k r h) (fun r h0 h=>st_not fin h0 h k) ((kindR fin (takeR fin [123] (nameR fin (takeR fin wState r)).2)).2.1.length+1) [] [] (kindR fin (takeR fin [123] (nameR fin (takeR fin wState r)).2)).2
  unfold stP stR
  simp only
  refine ⟨hin.1,fun h0=>?_⟩
  have e:=hin.2 h0
  rw [e]
theorem sts_eq (fin:Pl):∀ (g:Nat) (acc:List (St 7)) (r:RsC),takeR fin [125] (stsP fin g acc r).2=takeR fin [125] (stsR fin g acc r).2∧((takeR fin [125] (stsR fin g acc r).2).2.2=0→(stsP fin g acc r).1=(stsR fin g acc r).1)
 | 0,acc,r=>⟨rfl,fun _=>rfl⟩
 | g+1,acc,r=>by
  by_cases hz:r.2.2≠0
  ·have h0:=hz
   rw [sts_err h0,stsP_err h0];exact ⟨rfl,fun _=>rfl⟩
  have h0:r.2.2=0:=Decidable.not_not.1 hz
  unfold stsP stsR
  by_cases h1:isC [125] r=true
  ·rw [is_one h1 (t:=wState) (by decide),if_neg (by decide),if_neg (by rw [h1];simp)]
   exact ⟨rfl,fun _=>rfl⟩
  have h1':isC [125] r=false:=by simpa using h1
  rw [if_pos (⟨h0,h1'⟩:r.2.2=0∧isC [125] r=false)]
  by_cases h3:isC wState r=true
  ·rw [if_pos h3]
   obtain ⟨e1,e2⟩:=st_eq fin 6 r h3
   rw [e1]
   by_cases h4:(stR fin 6 r).2.2.2=0
   ·rw [e2 h4]
    exact sts_eq fin g _ _
   ·rw [sts_err h4,stsP_err h4]
    refine ⟨rfl,fun h=>?_⟩
    rw [take_err h4] at h
    exact absurd h h4
  ·rw [if_neg h3]
   have h3':isC wState r=false:=by simpa using h3
   have e:=st_not fin h0 h3' 6
   have eb:(failC 12 (hereR fin r) r).2.2≠0:=failC_bad (by decide) _ _
   rw [e,sts_err eb,take_err eb]
   refine ⟨by rw [take_not h1'],fun h=>absurd h eb⟩
/-- What the reader tells behind the chart's last word. -/
def lastR (fin:Pl) (e:RsC):RsC:=if e.2.2=0∧e.1≠[] then failC 12 (hereR fin e) e else e
theorem last_ok {fin:Pl}{e:RsC}(h:(lastR fin e).2.2=0):e.2.2=0:=by
 unfold lastR at h
 by_cases hc:e.2.2=0∧e.1≠[]
 ·exact hc.1
 ·rw [if_neg hc] at h;exact h
/-- The chart of words, as the program reads it. -/
def chP (fin:Pl) (ws:List Wd):ChC × RsC:=
 let a:=nameR fin (takeR fin wChart (ws,(0,0),0))
 let n:=numR fin a.2
 let b:=takeR fin [123] n.2
 let v:=varsR fin (b.1.length+1) [] b
 let s:=stsP fin (v.2.1.length+1) [] v.2
 ((a.1,n.1,v.1,s.1),takeR fin [125] s.2)
def chZ (fin:Pl) (x:ChC × RsC):ChC × Pl × Int:=if (lastR fin x.2).2.2=0 then (x.1,(0,0),0) else (noC,(lastR fin x.2).2.1,(lastR fin x.2).2.2)
theorem ch_eq (fin:Pl) (ws:List Wd):chR fin ws=chZ fin (chP fin ws):=by
 unfold chR chZ chP
 simp only
 generalize nameR fin (takeR fin wChart (ws,(0,0),0))=A
 generalize numR fin A.2=N
 generalize varsR fin ((takeR fin [123] N.2).1.length+1) [] (takeR fin [123] N.2)=V
 obtain ⟨e1,e2⟩:=sts_eq fin (V.2.1.length+1) [] V.2
 rw [e1]
 show (if (lastR fin (takeR fin [125] (stsR fin (V.2.1.length+1) [] V.2).2)).2.2=0 then _ else (noC,(lastR fin (takeR fin [125] (stsR fin (V.2.1.length+1) [] V.2).2)).2.1,(lastR fin (takeR fin [125] (stsR fin (V.2.1.length+1) [] V.2).2)).2.2))=_
 by_cases h:(lastR fin (takeR fin [125] (stsR fin (V.2.1.length+1) [] V.2).2)).2.2=0
 ·rw [if_pos h,if_pos h,e2 (last_ok h)]
 ·rw [if_neg h,if_neg h]
theorem goesP_st (fin:Pl) (k:Nat) {r:RsC}(h:isC wState r=true):Goes r (stP fin k r).2∧((stP fin k r).2.2.2=0→(stP fin k r).2.1.length < r.1.length):=by
 rw [(st_eq fin k r h).1]
 exact goes_st fin k r
end Go.Proofs.YtlgnahpfggagoaaGreatDoor
/- What the program's levelOf and Reserved do. -/
namespace Go.Proofs.YtlgnahpfggagoaaGreatDoor
open Go.RowKit Go.Lib
set_option linter.unusedSimpArgs false
set_option linter.unusedVariables false
attribute [local go_sem ↓] Go.wp_at_zero Go.wp_at_succ
set_option maxRecDepth 100000 in
set_option maxHeartbeats 2000000 in
theorem pLevel_any (s:ByteArray) (w:World):Calls Tryz.prog 154 #[.string s] w fun e w'=>e=.returned (.int .i64 (lv (bl s):Int))∧w=w':=by
 have hS:∀ x,(s.toList == x)=(bl s == x):=fun x=>by rw [ByteArray.toList_eq]
 obtain ⟨l,hl⟩:∃ l,bl s=l:=⟨_,rfl⟩
 rw [hl]
 simp only [hl] at hS
 clear hl
 have q0:(s.toList == [124,124])=(l == [124,124]):=hS _
 have q1:(s.toList == [38,38])=(l == [38,38]):=hS _
 have q2:(s.toList == [60])=(l == [60]):=hS _
 have q3:(s.toList == [60,61])=(l == [60,61]):=hS _
 have q4:(s.toList == [61,61])=(l == [61,61]):=hS _
 have q5:(s.toList == [33,61])=(l == [33,61]):=hS _
 have q6:(s.toList == [43])=(l == [43]):=hS _
 have q7:(s.toList == [45])=(l == [45]):=hS _
 have q8:(s.toList == [42])=(l == [42]):=hS _
 clear hS
 cases r0:(l == [124,124])
 case true=>rw [r0] at q0;clear q1 q2 q3 q4 q5 q6 q7 q8;go_enter Tryz.func154,Tryz.ntmps154;go_wp2;go_ret;exact ⟨by rw [eq_of_beq r0];rfl,rfl⟩
 rw [r0] at q0
 cases r1:(l == [38,38])
 case true=>rw [r1] at q1;clear q2 q3 q4 q5 q6 q7 q8;go_enter Tryz.func154,Tryz.ntmps154;go_wp2;go_ret;exact ⟨by rw [eq_of_beq r1];rfl,rfl⟩
 rw [r1] at q1
 cases r2:(l == [60])
 case true=>rw [r2] at q2;clear q3 q4 q5 q6 q7 q8;go_enter Tryz.func154,Tryz.ntmps154;go_wp2;go_ret;exact ⟨by rw [eq_of_beq r2];rfl,rfl⟩
 rw [r2] at q2
 cases r3:(l == [60,61])
 case true=>rw [r3] at q3;clear q4 q5 q6 q7 q8;go_enter Tryz.func154,Tryz.ntmps154;go_wp2;go_ret;exact ⟨by rw [eq_of_beq r3];rfl,rfl⟩
 rw [r3] at q3
 cases r4:(l == [61,61])
 case true=>rw [r4] at q4;clear q5 q6 q7 q8;go_enter Tryz.func154,Tryz.ntmps154;go_wp2;go_ret;exact ⟨by rw [eq_of_beq r4];rfl,rfl⟩
 rw [r4] at q4
 cases r5:(l == [33,61])
 case true=>rw [r5] at q5;clear q6 q7 q8;go_enter Tryz.func154,Tryz.ntmps154;go_wp2;go_ret;exact ⟨by rw [eq_of_beq r5];rfl,rfl⟩
 rw [r5] at q5
 cases r6:(l == [43])
 case true=>rw [r6] at q6;clear q7 q8;go_enter Tryz.func154,Tryz.ntmps154;go_wp2;go_ret;exact ⟨by rw [eq_of_beq r6];rfl,rfl⟩
 rw [r6] at q6
 cases r7:(l == [45])
 case true=>rw [r7] at q7;clear q8;go_enter Tryz.func154,Tryz.ntmps154;go_wp2;go_ret;exact ⟨by rw [eq_of_beq r7];rfl,rfl⟩
 rw [r7] at q7
 cases r8:(l == [42])
 case true=>rw [r8] at q8;go_enter Tryz.func154,Tryz.ntmps154;go_wp2;go_ret;exact ⟨by rw [eq_of_beq r8];rfl,rfl⟩
 rw [r8] at q8
 go_enter Tryz.func154,Tryz.ntmps154
 go_wp2
 go_ret
 have e:lv l=0:=by simp [lv,beq_eq_false_iff_ne.1 r0,beq_eq_false_iff_ne.1 r1,beq_eq_false_iff_ne.1 r2,beq_eq_false_iff_ne.1 r3,beq_eq_false_iff_ne.1 r4,beq_eq_false_iff_ne.1 r5,beq_eq_false_iff_ne.1 r6,beq_eq_false_iff_ne.1 r7,beq_eq_false_iff_ne.1 r8]
 exact ⟨by rw [e];rfl,rfl⟩
set_option maxRecDepth 100000 in
set_option maxHeartbeats 2000000 in
theorem pReserved_any (s:ByteArray) (w:World):Calls Tryz.prog 41 #[.string s] w fun e w'=>e=.returned (.bool (rsvB (bl s)))∧w=w':=by
 have hS:∀ x,(s.toList == x)=(bl s == x):=fun x=>by rw [ByteArray.toList_eq]
 obtain ⟨l,hl⟩:∃ l,bl s=l:=⟨_,rfl⟩
 rw [hl]
 simp only [hl] at hS
 clear hl
 have q0:(s.toList == [99,104,97,114,116])=(l == [99,104,97,114,116]):=hS _
 have q1:(s.toList == [118,97,114])=(l == [118,97,114]):=hS _
 have q2:(s.toList == [115,116,97,116,101])=(l == [115,116,97,116,101]):=hS _
 have q3:(s.toList == [97,108,108])=(l == [97,108,108]):=hS _
 have q4:(s.toList == [101,110,100])=(l == [101,110,100]):=hS _
 have q5:(s.toList == [100,111])=(l == [100,111]):=hS _
 have q6:(s.toList == [117,110,100,111])=(l == [117,110,100,111]):=hS _
 have q7:(s.toList == [97,116])=(l == [97,116]):=hS _
 have q8:(s.toList == [114,101,116,114,105,101,115])=(l == [114,101,116,114,105,101,115]):=hS _
 have q9:(s.toList == [111,110])=(l == [111,110]):=hS _
 have q10:(s.toList == [105,102])=(l == [105,102]):=hS _
 have q11:(s.toList == [103,111])=(l == [103,111]):=hS _
 have q12:(s.toList == [115,101,116])=(l == [115,101,116]):=hS _
 clear hS
 cases r0:(l == [99,104,97,114,116])
 case true=>rw [r0] at q0;clear q1 q2 q3 q4 q5 q6 q7 q8 q9 q10 q11 q12;go_enter Tryz.func41,Tryz.ntmps41;go_wp2;go_ret;exact ⟨by rw [eq_of_beq r0];rfl,rfl⟩
 rw [r0] at q0
 cases r1:(l == [118,97,114])
 case true=>rw [r1] at q1;clear q2 q3 q4 q5 q6 q7 q8 q9 q10 q11 q12;go_enter Tryz.func41,Tryz.ntmps41;go_wp2;go_ret;exact ⟨by rw [eq_of_beq r1];rfl,rfl⟩
 rw [r1] at q1
 cases r2:(l == [115,116,97,116,101])
 case true=>rw [r2] at q2;clear q3 q4 q5 q6 q7 q8 q9 q10 q11 q12;go_enter Tryz.func41,Tryz.ntmps41;go_wp2;go_ret;exact ⟨by rw [eq_of_beq r2];rfl,rfl⟩
 rw [r2] at q2
 cases r3:(l == [97,108,108])
 case true=>rw [r3] at q3;clear q4 q5 q6 q7 q8 q9 q10 q11 q12;go_enter Tryz.func41,Tryz.ntmps41;go_wp2;go_ret;exact ⟨by rw [eq_of_beq r3];rfl,rfl⟩
 rw [r3] at q3
 cases r4:(l == [101,110,100])
 case true=>rw [r4] at q4;clear q5 q6 q7 q8 q9 q10 q11 q12;go_enter Tryz.func41,Tryz.ntmps41;go_wp2;go_ret;exact ⟨by rw [eq_of_beq r4];rfl,rfl⟩
 rw [r4] at q4
 cases r5:(l == [100,111])
 case true=>rw [r5] at q5;clear q6 q7 q8 q9 q10 q11 q12;go_enter Tryz.func41,Tryz.ntmps41;go_wp2;go_ret;exact ⟨by rw [eq_of_beq r5];rfl,rfl⟩
 rw [r5] at q5
 cases r6:(l == [117,110,100,111])
 case true=>rw [r6] at q6;clear q7 q8 q9 q10 q11 q12;go_enter Tryz.func41,Tryz.ntmps41;go_wp2;go_ret;exact ⟨by rw [eq_of_beq r6];rfl,rfl⟩
 rw [r6] at q6
 cases r7:(l == [97,116])
 case true=>rw [r7] at q7;clear q8 q9 q10 q11 q12;go_enter Tryz.func41,Tryz.ntmps41;go_wp2;go_ret;exact ⟨by rw [eq_of_beq r7];rfl,rfl⟩
 rw [r7] at q7
 cases r8:(l == [114,101,116,114,105,101,115])
 case true=>rw [r8] at q8;clear q9 q10 q11 q12;go_enter Tryz.func41,Tryz.ntmps41;go_wp2;go_ret;exact ⟨by rw [eq_of_beq r8];rfl,rfl⟩
 rw [r8] at q8
 cases r9:(l == [111,110])
 case true=>rw [r9] at q9;clear q10 q11 q12;go_enter Tryz.func41,Tryz.ntmps41;go_wp2;go_ret;exact ⟨by rw [eq_of_beq r9];rfl,rfl⟩
 rw [r9] at q9
 cases r10:(l == [105,102])
 case true=>rw [r10] at q10;clear q11 q12;go_enter Tryz.func41,Tryz.ntmps41;go_wp2;go_ret;exact ⟨by rw [eq_of_beq r10];rfl,rfl⟩
 rw [r10] at q10
 cases r11:(l == [103,111])
 case true=>rw [r11] at q11;clear q12;go_enter Tryz.func41,Tryz.ntmps41;go_wp2;go_ret;exact ⟨by rw [eq_of_beq r11];rfl,rfl⟩
 rw [r11] at q11
 cases r12:(l == [115,101,116])
 case true=>rw [r12] at q12;go_enter Tryz.func41,Tryz.ntmps41;go_wp2;go_ret;exact ⟨by rw [eq_of_beq r12];rfl,rfl⟩
 rw [r12] at q12
 go_enter Tryz.func41,Tryz.ntmps41
 go_wp2
 go_ret
 have e:rsvB l=false:=by simp [rsvB,rsv13,beq_eq_false_iff_ne.1 r0,beq_eq_false_iff_ne.1 r1,beq_eq_false_iff_ne.1 r2,beq_eq_false_iff_ne.1 r3,beq_eq_false_iff_ne.1 r4,beq_eq_false_iff_ne.1 r5,beq_eq_false_iff_ne.1 r6,beq_eq_false_iff_ne.1 r7,beq_eq_false_iff_ne.1 r8,beq_eq_false_iff_ne.1 r9,beq_eq_false_iff_ne.1 r10,beq_eq_false_iff_ne.1 r11,beq_eq_false_iff_ne.1 r12]
 exact ⟨by rw [e];rfl,rfl⟩
end Go.Proofs.YtlgnahpfggagoaaGreatDoor
