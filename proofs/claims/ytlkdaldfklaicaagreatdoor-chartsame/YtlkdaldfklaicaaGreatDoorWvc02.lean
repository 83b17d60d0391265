import Derived.Test.YtlkdaldfklaicaaGreatDoorWvc01
import Derived.Lib.ItoaNum
namespace Go.Proofs.YtlkdaldfklaicaaGreatDoor
open Go.RowKit Go.Lib
set_option linter.unusedSimpArgs false
set_option linter.unusedVariables false
attribute [local go_sem ↓] Go.wp_at_zero Go.wp_at_succ
abbrev bl (s:ByteArray):List UInt8:=s.data.toList
theorem zo (s:ByteArray):(bl s).length=s.size:=rfl
theorem zfh (r:Int):zS r=(decide (97<=r) && decide (r<=122) || decide (65<=r) && decide (r<=90) || decide (1072<=r) && decide (r<=1103)):=by
 unfold zS
 rw [Bool.eq_iff_iff]
 simp
 omega
theorem znx (r:Int):dgt r=(decide (48<=r) && decide (r<=57)):=by
 unfold dgt
 rw [Bool.eq_iff_iff]
 simp
theorem zT {a b:Bool}(h:a=b):Ending.returned (.bool a)=.returned (.bool b):=by rw [h]
structure Adv (l:List UInt8) (m k:Nat):Prop where
 le:k<=l.length
 left:runes (l.drop k)=(runes l).drop m
 cnt:spn (runes l)=m+spn (runes (l.drop k))
 size:(byt ((runes l).take m)).length=k
 few:m<=k
theorem Adv.zero (l:List UInt8):Adv l 0 0:=⟨by omega,rfl,by simp,rfl,by omega⟩
theorem zam {l:List UInt8}{k:Nat}(h:k < l.length):l.drop k≠[]:=by
 intro e
 have:=congrArg List.length e
 rw [List.length_drop] at this
 simp at this
 omega
theorem zbY (rs:List Ru) (m:Nat):(byt rs).length=(byt (rs.take m)).length+(byt (rs.drop m)).length:=by
 rw [<- List.length_append,<- zbG,List.take_append_drop]
theorem Adv.step {l:List UInt8}{m k:Nat}(h:Adv l m k) (hk:k < l.length) (hi:zbU (nx (l.drop k)).1=true):Adv l (m+1) (k+(nx (l.drop k)).2):=by
 have hne:=zam hk
 have hc:=zq hne
 have hle:=zcT hne
 have hps:=zaC hne
 rw [List.length_drop] at hle
 have hd:(runes l).drop m=((nx (l.drop k)).1,(l.drop k).take (nx (l.drop k)).2) :: runes ((l.drop k).drop (nx (l.drop k)).2):=by rw [<- h.left,hc]
 have hd1:(runes l).drop (m+1)=runes (l.drop (k+(nx (l.drop k)).2)):=by
  have:=congrArg List.tail hd
  rw [List.tail_drop,List.tail_cons,List.drop_drop] at this
  exact this
 refine ⟨by omega,hd1.symm,?_,?_,by have:=h.few;omega⟩
 ·rw [h.cnt,hc,List.drop_drop]
  show m+(if zbU (nx (l.drop k)).1=true then spn _+1 else 0)=_
  rw [if_pos hi]
  omega
 ·have e1:=zbY (runes l) (m+1)
  rw [hd1,zan _ _ zn2,zan _ _ zn2,List.length_drop] at e1
  omega
theorem Adv.stop {l:List UInt8}{m k:Nat}(h:Adv l m k) (hs:l.length<=k∨zbU (nx (l.drop k)).1=false):spn (runes l)=m:=by
 rw [h.cnt]
 rcases hs with hs|hs
 ·rw [List.drop_eq_nil_of_le hs];rfl
 ·by_cases hk:l.length<=k
  ·rw [List.drop_eq_nil_of_le hk];rfl
  ·rw [zq (zam (by omega))]
   show m+(if zbU (nx (l.drop k)).1=true then _ else 0)=m
   rw [if_neg (by rw [hs];decide)]
   omega
def spb (l:List UInt8):Nat:=(byt ((runes l).take (spn (runes l)))).length
theorem zmn (s:ByteArray) (k:Nat):bl (s.extract k s.size)=(bl s).drop k:=by
 show (s.extract k s.size).data.toList=_
 rw [Lib.extract_data,List.take_of_length_le]
 rw [List.length_drop]
 exact Nat.le_refl _
def zae (l:List UInt8):Bool:=zS (nx l).1 && ((spb l:Int) == (l.length:Int)) && decide (spn (runes l)<=24)
theorem zcg (c:UInt8) (r:List UInt8):∃ t,runes (c :: r)=((nx (c :: r)).1,(c :: r).take (nx (c :: r)).2) :: t/\(c.toNat < 128->t=runes r/\(nx (c :: r)).1=(c.toNat:Int))/\(¬ c.toNat < 128->(nx (c :: r)).1 = -1∨128<=(nx (c :: r)).1):=by
 refine ⟨_,zq (by simp),fun h=>?_,fun h=>zhz h r⟩
 rw [zdl h]
 exact ⟨rfl,rfl⟩
theorem zd1 {a:Int}(h:a = -1∨128<=a):one a=0:=by unfold one;rw [if_neg (by omega)]
theorem zfg {a b:Int}(h:a = -1∨128<=a):zbi a b=false:=decide_eq_false (by omega)
theorem zeX {a b:Int}(h:b = -1∨128<=b):zbi a b=false:=decide_eq_false (by omega)
theorem zgd (v:Ru) (t:List Ru) (h:v.1 = -1∨128<=v.1):sgn (v :: t)=0:=by
 match t with
 | []=>exact zd1 h
 | u :: t=>
  show (if zbi v.1 u.1=true then 2 else one v.1)=0
  rw [zfg h,zd1 h];rfl
theorem zlx (c:UInt8):sgn (runes [c])=one (c.toNat:Int):=by
 by_cases h:c.toNat < 128
 ·rw [zcz h];rfl
 ·obtain ⟨t,e,_,hb⟩:=zcg c []
  rw [e,zgd _ _ (hb h),zd1 (.inr (by omega))]
theorem zmp (c d:UInt8) (r:List UInt8):sgn (runes (c :: d :: r))=if zbi (c.toNat:Int) (d.toNat:Int)=true then 2 else one (c.toNat:Int):=by
 by_cases h:c.toNat < 128
 ·rw [zcz h]
  obtain ⟨t,e,hs,hb⟩:=zcg d r
  rw [e]
  show (if zbi (c.toNat:Int) (nx (d :: r)).1=true then 2 else one (c.toNat:Int))=_
  by_cases hd:d.toNat < 128
  ·rw [(hs hd).2]
  ·rw [zeX (hb hd),zeX (b:=(d.toNat:Int)) (.inr (by omega))]
 ·obtain ⟨t,e,_,hb⟩:=zcg c (d :: r)
  rw [e,zgd _ _ (hb h),zfg (a:=(c.toNat:Int)) (.inr (by omega)),zd1 (.inr (by omega))]
  rfl
theorem zdC {p q:Prop} [Decidable p] [Decidable q] (h:¬ (p/\q)):(decide p && decide q)=false:=by
 rw [Bool.and_eq_false_iff]
 rcases Decidable.not_and_iff_or_not.1 h with h|h
 ·exact .inl (decide_eq_false h)
 ·exact .inr (decide_eq_false h)
theorem zly (s:ByteArray) (c d x y:UInt8) (r:List UInt8) (h:bl s=c :: d :: r):((s.extract 0 2).toList == [x,y])=(decide (c=x) && decide (d=y)):=by
 have e:(s.extract 0 2).toList=[c,d]:=by
  rw [ByteArray.toList_eq]
  show (s.extract 0 2).data.toList=_
  rw [Lib.extract_data,show s.data.toList=c :: d :: r from h];rfl
 rw [e]
 rw [Bool.eq_iff_iff]
 simp
theorem zac {a:Int}(h:a=123∨a=125∨a=40∨a=41∨a=61∨a=33∨a=60∨a=43∨a=45∨a=42):one a=1:=if_pos h
theorem zkO {a:Int}(h:¬ (a=123∨a=125∨a=40∨a=41∨a=61∨a=33∨a=60∨a=43∨a=45∨a=42)):one a=0:=if_neg h
def dB (c:UInt8):Bool:=decide (48<=c.toNat/\c.toNat<=57)
def zz (n:Int):List UInt8->Int
 | []=>n
 | c :: r=>zz (10*n+((c.toNat:Int) - 48)) r
def zai (l:List UInt8):Bool:=decide (1<=l.length/\l.length<=10) && !(decide ((l.headD 0).toNat=48) && decide (1 < l.length)) && l.all dB && decide (zz 0 l<=1000000000)
theorem zgV {l:List UInt8}(h:¬ (1<=l.length/\l.length<=10)):zai l=false:=by unfold zai;rw [decide_eq_false h];rfl
theorem zgC {c:UInt8}{r:List UInt8}(hc:c.toNat=48) (h:1 < (c :: r).length):zai (c :: r)=false:=by
 have h2:decide (((c :: r).headD 0).toNat=48)=true:=decide_eq_true hc
 unfold zai
 rw [h2,decide_eq_true h]
 simp
theorem zee {l:List UInt8}(h:l.all dB=false):zai l=false:=by unfold zai;rw [h];simp
theorem zj5 {l:List UInt8}(h1:1<=l.length/\l.length<=10) (h2:¬ ((l.headD 0).toNat=48/\1 < l.length)) (h:l.all dB=true):zai l=decide (zz 0 l<=1000000000):=by
 have h3:=zdC h2
 unfold zai
 rw [decide_eq_true h1,h3,h]
 simp
theorem znw (s:ByteArray) (k:Nat) (h:k < s.size):s[k]=(bl s)[k]'(by rw [zo];exact h):=rfl
theorem zfp {l:List UInt8}{k:Nat}{n v:Int}(h:zz n (l.drop k)=v) (hk:k < l.length):zz (10*n+(((l[k]).toNat:Int) - 48)) (l.drop (k+1))=v:=by
 rw [<- h,List.drop_eq_getElem_cons (i:=k) hk]
 rfl
theorem zgE {l:List UInt8}{k:Nat}{n v:Int}(h:zz n (l.drop k)=v) (hk:l.length<=k):n=v:=by
 rw [<- h,List.drop_eq_nil_of_le hk];rfl
theorem zgP {l:List UInt8}{k:Nat}(h:(l.take k).all dB=true) (hk:k < l.length) (hd:dB l[k]=true):(l.take (k+1)).all dB=true:=by
 rw [List.take_succ_eq_append_getElem hk,List.all_append,h]
 simp [hd]
theorem zjR {l:List UInt8}{k:Nat}(hk:k < l.length) (hd:dB l[k]=false):l.all dB=false:=by
 rw [List.all_eq_false]
 exact ⟨l[k],List.getElem_mem _,by rw [hd];decide⟩
theorem znA {c:UInt8}(h:48<=c.toNat/\c.toNat<=57):dB c=true:=decide_eq_true h
theorem zmE {c:UInt8}(h:¬ (48<=c.toNat/\c.toNat<=57)):dB c=false:=decide_eq_false h
theorem ziG {k:Nat}(h:k<=9):(10:Int) ^ k<=1000000000:=by
 have:(10:Nat) ^ k<=10 ^ 9:=Nat.pow_le_pow_right (by omega) h
 have e:((10 ^ k:Nat):Int)=(10:Int) ^ k:=by simp
 omega
theorem zfX (k:Nat):(10:Int) ^ (k+1)=10 ^ k*10:=Int.pow_succ 10 k
theorem zcX:∀ (n:Nat) (l:List UInt8),l.length<=n->∀ v∈runes l,∃ c r,v.2=c :: r/\(c.toNat < 128->v.1=(c.toNat:Int)/\r=[])/\(¬ c.toNat < 128->v.1 = -1∨128<=v.1)
 | 0,l,h,v,hv=>by
  have:l=[]:=List.eq_nil_of_length_eq_zero (by omega)
  subst this;cases hv
 | n+1,[],h,v,hv=>by cases hv
 | n+1,c :: r,h,v,hv=>by
  by_cases hc:c.toNat < 128
  ·rw [zcz hc] at hv
   rcases List.mem_cons.1 hv with rfl|hv
   ·exact ⟨c,[],rfl,fun _=>⟨rfl,rfl⟩,fun h=>absurd hc h⟩
   ·exact zcX n r (by simp at h;omega) v hv
  ·have hp:=zaC (l:=c :: r) (by simp)
   rw [zq (by simp)] at hv
   rcases List.mem_cons.1 hv with rfl|hv
   ·obtain ⟨m,hm⟩:∃ m,(nx (c :: r)).2=m+1:=⟨(nx (c :: r)).2 - 1,by omega⟩
    exact ⟨c,r.take m,by rw [hm,List.take_succ_cons],fun h=>absurd h hc,fun _=>zhz hc r⟩
   ·exact zcX n _ (by rw [List.length_drop];omega) v hv
theorem form (l:List UInt8):∀ v∈runes l,∃ c r,v.2=c :: r/\(c.toNat < 128->v.1=(c.toNat:Int)/\r=[])/\(¬ c.toNat < 128->v.1 = -1∨128<=v.1):=zcX _ l zn2
theorem zfu {l:List UInt8}{v:Ru}(hv:v∈runes l) (h:0<=v.1/\v.1 < 128):∃ c,v.2=[c]/\v.1=(c.toNat:Int):=by
 obtain ⟨c,r,e,h1,h2⟩:=form l v hv
 by_cases hc:c.toNat < 128
 ·obtain ⟨a,b⟩:=h1 hc
  exact ⟨c,by rw [e,b],a⟩
 ·have:=h2 hc;omega
theorem zdz {l:List UInt8}:∀ (vs:List Ru),(∀ v∈vs,v∈runes l)->vs.all (fun v=>dgt v.1)=true->(byt vs).length=vs.length/\(byt vs).all dB=true/\(∀ n,zz n (byt vs)=val n vs)/\(vs≠[]->((byt vs).headD 0).toNat=((vs.headD (0,[])).1).toNat)
 | [],_,_=>⟨rfl,rfl,fun _=>rfl,fun h=>absurd rfl h⟩
 | v :: t,hm,ha=>by
  simp only [List.all_cons,Bool.and_eq_true] at ha
  have hd:48<=v.1/\v.1<=57:=of_decide_eq_true ha.1
  obtain ⟨c,e1,e2⟩:=zfu (hm v (by simp)) (by omega)
  obtain ⟨i1,i2,i3,i4⟩:=zdz t (fun x hx=>hm x (by simp [hx])) ha.2
  have eb:byt (v :: t)=c :: byt t:=by rw [zaQ,e1];rfl
  rw [eb]
  refine ⟨by simp [i1],?_,fun n=>?_,fun _=>?_⟩
  ·simp only [List.all_cons,i2,Bool.and_true]
   exact znA (by omega)
  ·show zz (10*n+((c.toNat:Int) - 48)) (byt t)=val (10*n+(v.1 - 48)) t
   rw [i3,e2]
  ·simp [e2]
theorem zea {l:List UInt8}:∀ (vs:List Ru),(∀ v∈vs,v∈runes l)->vs.all (fun v=>dgt v.1)=false->(byt vs).all dB=false
 | [],_,h=>by simp at h
 | v :: t,hm,ha=>by
  rw [zaQ,List.all_append]
  simp only [List.all_cons,Bool.and_eq_false_iff] at ha
  rw [Bool.and_eq_false_iff]
  rcases ha with ha|ha
  ·left
   have hd:¬ (48<=v.1/\v.1<=57):=of_decide_eq_false ha
   obtain ⟨c,r,e,h1,h2⟩:=form l v (hm v (by simp))
   rw [e,List.all_cons,Bool.and_eq_false_iff]
   left
   refine zmE (fun h=>hd ?_)
   have:=(h1 (by omega)).1
   omega
  ·right
   exact zea t (fun x hx=>hm x (by simp [hx])) ha
theorem zeZ {l:List UInt8}(vs:List Ru) (hm:∀ v∈vs,v∈runes l):zai (byt vs)=zgz vs:=by
 cases ha:vs.all (fun v=>dgt v.1) with
 | false=>
  rw [zee (zea vs hm ha)]
  unfold zgz
  rw [ha];simp
 | true=>
  obtain ⟨i1,i2,i3,i4⟩:=zdz vs hm ha
  unfold zai zgz
  rw [i1,i2,i3,ha]
  by_cases hn:vs=[]
  ·subst hn;rfl
  ·have h4:=i4 hn
   have h5:decide (((byt vs).headD 0).toNat=48)=decide ((vs.headD (0,[])).1=48):=by
    match vs,hn with
    | v :: t,_=>
     simp only [List.all_cons,Bool.and_eq_true] at ha
     have hd:48<=v.1/\v.1<=57:=of_decide_eq_true ha.1
     have h6:((byt (v :: t)).headD 0).toNat=v.1.toNat:=h4
     show decide (((byt (v :: t)).headD 0).toNat=48)=decide (v.1=48)
     by_cases hq:v.1=48
     ·rw [decide_eq_true hq];exact decide_eq_true (by omega)
     ·rw [decide_eq_false hq];exact decide_eq_false (by omega)
   rw [h5]
theorem zk9 (l:List UInt8):l.take (spb l)=byt ((runes l).take (spn (runes l))):=by
 have e:=zan _ l zn2
 have e2:byt ((runes l).take (spn (runes l)))++byt ((runes l).drop (spn (runes l)))=l:=by rw [<- zbG,List.take_append_drop,e]
 have e3:∀ (a b:List UInt8),a++b=l->l.take a.length=a:=fun a b h=>by rw [<- h];exact List.take_left
 exact e3 _ _ e2
theorem zkB (l:List UInt8):∀ v∈(runes l).take (spn (runes l)),zgw v:=fun v hv=>zbD _ l zn2 v (List.mem_of_mem_take hv) (zfR (zdq _ v hv))
theorem zjz (l:List UInt8):runes (byt ((runes l).take (spn (runes l))))=(runes l).take (spn (runes l)):=by
 have:=zcD _ [] (zkB l)
 rwa [List.append_nil,zbt,List.append_nil] at this
theorem zkE {l:List UInt8}(hl:l≠[]) (h:zS (nx l).1=true):zae (l.take (spb l))=decide (spn (runes l)<=24):=by
 have hc:=zq hl
 have hp:1<=spn (runes l):=by rw [hc];exact zfS (zdX h)
 have hr:=zjz l
 have hs:=zdh (runes l)
 have hb:spb (byt ((runes l).take (spn (runes l))))=(byt ((runes l).take (spn (runes l)))).length:=by
  unfold spb
  rw [hr,hs,List.take_take,Nat.min_self]
 have hne:byt ((runes l).take (spn (runes l)))≠[]:=by
  intro e
  rw [e] at hr
  have:=congrArg List.length hr
  rw [List.length_take,zbt] at this
  have h7:=zfD (runes l)
  simp only [List.length_nil] at this
  omega
 have hh:(nx (byt ((runes l).take (spn (runes l))))).1=(nx l).1:=by
  have e1:=zq hne
  rw [hr,hc] at e1
  obtain ⟨m,hm⟩:∃ m,spn (runes l)=m+1:=⟨spn (runes l) - 1,by omega⟩
  rw [hc] at hm
  rw [hm,List.take_succ_cons] at e1
  have:=congrArg (fun x=>x.headD ((0,[]):Ru)) e1
  simp only [List.headD_cons] at this
  rw [hc,hm,List.take_succ_cons]
  exact (congrArg Prod.fst this).symm
 rw [zk9]
 unfold zae
 rw [hh,h,hb,hr,hs]
 simp
theorem ze0 (l:List UInt8):(byt ((runes l).take (sgn (runes l)))).length=sgn (runes l):=by
 have key:∀ v∈(runes l).take (sgn (runes l)),0<=v.1/\v.1 < 128:=by
  intro v hv
  match hr:runes l with
  | []=>rw [hr] at hv;simp at hv
  | [u]=>
   rw [hr] at hv
   have hm:=List.mem_of_mem_take hv
   rcases List.mem_cons.1 hm with rfl|hm
   ·have h0:one v.1≠0:=fun e=>by rw [show sgn [v]=one v.1 from rfl,e] at hv;simp at hv
    unfold one at h0
    split at h0
    ·omega
    ·exact absurd rfl h0
   ·simp at hm
  | u :: x :: t=>
   rw [hr] at hv
   have e:sgn (u :: x :: t)=if zbi u.1 x.1=true then 2 else one u.1:=rfl
   by_cases hp:zbi u.1 x.1=true
   ·rw [e,if_pos hp] at hv
    have:=of_decide_eq_true hp
    simp only [List.take_succ_cons,List.take_zero,List.mem_cons,List.not_mem_nil,or_false] at hv
    rcases hv with rfl|rfl<;>omega
   ·rw [e,if_neg hp] at hv
    unfold one at hv
    split at hv
    ·simp only [List.take_succ_cons,List.take_zero,List.mem_cons,List.not_mem_nil,or_false] at hv
     subst hv;omega
    ·simp at hv
 have h2:∀ (vs:List Ru),(∀ v∈vs,v∈runes l)->(∀ v∈vs,0<=v.1/\v.1 < 128)->(byt vs).length=vs.length:=by
  intro vs
  induction vs with
  | nil=>intro _ _;rfl
  | cons v t ih=>
   intro hm hk
   obtain ⟨c,e1,_⟩:=zfu (hm v (by simp)) (hk v (by simp))
   rw [zaQ,e1,List.length_append,ih (fun x hx=>hm x (by simp [hx])) (fun x hx=>hk x (by simp [hx]))]
   simp;omega
 rw [h2 _ (fun v hv=>List.mem_of_mem_take hv) key,List.length_take]
 have:=zhc (runes l)
 omega
def zdj:List Ru->Int->Int->Int × Int
 | [],ln,co=>(ln,co)
 | v :: t,ln,co=>if v.1=10 then zdj t (ln+1) 1 else zdj t ln (co+1)
theorem znL {w w':World}{X:Nat}{a b:Value}(hb:Below w.heap.size w w') (h0:w.cell? ⟨X,0,none⟩=some a) (h1:w.cell? ⟨X,1,none⟩=some b) (f0:w.frozen? ⟨X,0,none⟩=false) (f1:w.frozen? ⟨X,1,none⟩=false) :
  w'.cell? ⟨X,0,none⟩=some a/\w'.cell? ⟨X,1,none⟩=some b/\w'.frozen? ⟨X,0,none⟩=false/\w'.frozen? ⟨X,1,none⟩=false:=by
 have hX:=World.block_lt_of_cell? w _ h0
 have hX':X < w.heap.size:=hX
 refine ⟨?_,?_,?_,?_⟩
 ·rw [hb.cell (p:=⟨X,0,none⟩) hX'];exact h0
 ·rw [hb.cell (p:=⟨X,1,none⟩) hX'];exact h1
 ·rw [hb.frozen (p:=⟨X,0,none⟩) hX'];exact f0
 ·rw [hb.frozen (p:=⟨X,1,none⟩) hX'];exact f1
theorem znW (w:World) (a b:Value) (T:TypeId) (n:Nat) (hn:n=w.heap.size):(w.alloc (.cells #[a,b] T)).cell? ⟨n,0,none⟩=some a/\(w.alloc (.cells #[a,b] T)).cell? ⟨n,1,none⟩=some b/\(w.alloc (.cells #[a,b] T)).frozen? ⟨n,0,none⟩=false/\(w.alloc (.cells #[a,b] T)).frozen? ⟨n,1,none⟩=false:=by
 subst hn
 refine ⟨by simp,by simp,by simp,by simp⟩
def At (w:World) (X:Nat) (a b:Value):Prop:=w.cell? ⟨X,0,none⟩=some a/\w.cell? ⟨X,1,none⟩=some b/\w.frozen? ⟨X,0,none⟩=false/\w.frozen? ⟨X,1,none⟩=false
theorem At.keep {w w':World}{X:Nat}{a b:Value}(h:At w X a b) (hb:Below w.heap.size w w'):At w' X a b:=znL hb h.1 h.2.1 h.2.2.1 h.2.2.2
theorem zfo {w:World}{p:Addr}{u v:Value}(h:w.cell? p=some u):(w.setCell p v).cell? p=some v:=World.cell?_setCell_same' w _ v (by rw [h];rfl)
theorem zdy {w:World}{X i Y j:Nat}{u v:Value}(hne:¬ (X=Y/\i=j)) (h:w.cell? ⟨Y,j,none⟩=some u):(w.setCell ⟨X,i,none⟩ v).cell? ⟨Y,j,none⟩=some u:=
 (World.cell?_setCell_other w ⟨X,i,none⟩ ⟨Y,j,none⟩ v (by simp;intro h1 h2;exact hne ⟨h1,h2⟩)).trans h
theorem At.set0 {w:World}{X:Nat}{a b:Value}(h:At w X a b) (v:Value):At (w.setCell ⟨X,0,none⟩ v) X v b:=
 ⟨zfo h.1,zdy (by omega) h.2.1,(World.frozen?_setCell _ _ _ _).trans h.2.2.1,(World.frozen?_setCell _ _ _ _).trans h.2.2.2⟩
theorem At.set1 {w:World}{X:Nat}{a b:Value}(h:At w X a b) (v:Value):At (w.setCell ⟨X,1,none⟩ v) X a v:=
 ⟨zdy (by omega) h.1,zfo h.2.1,(World.frozen?_setCell _ _ _ _).trans h.2.2.1,(World.frozen?_setCell _ _ _ _).trans h.2.2.2⟩
theorem At.far {w:World}{X Y i:Nat}{a b:Value}(h:At w Y a b) (hne:X≠Y) (v:Value):At (w.setCell ⟨X,i,none⟩ v) Y a b:=
 ⟨zdy (by omega) h.1,zdy (by omega) h.2.1,(World.frozen?_setCell _ _ _ _).trans h.2.2.1,(World.frozen?_setCell _ _ _ _).trans h.2.2.2⟩
theorem At.new (w:World) (a b:Value) (T:TypeId) (n:Nat) (hn:n=w.heap.size):At (w.alloc (.cells #[a,b] T)) n a b:=znW w a b T n hn
def txt (seg:List Ru):ByteArray:=⟨(byt seg).toArray⟩
def zeE (x:Wd):List Value:=[.int .i64 (x.1:Int),.string (txt x.2.1),.int .i64 x.2.2.1,.int .i64 x.2.2.2]
def zcr (l:List Wd):List Value:=l.flatMap zeE
theorem zg6 (l:List Wd) (x:Wd):zcr (l++[x])=zcr l++zeE x:=by simp [zcr]
def OwnW (w:World) (base e:Nat) (v:Value) (l:List Wd):Prop:=w.ownsRow base e 4 v l.length (zcr l)
theorem zdb (w:World) (base e:Nat):OwnW w base e (.slice none 0 0) []:=World.ownsRow_nil w base e 4
theorem zi6 {w:World}{base e:Nat}{v:Value}{l:List Wd}{x:Wd}(h:w.ownsRow base e 4 v (l.length+1) (zcr l++zeE x)):OwnW w base e v (l++[x]):=by
 unfold OwnW
 rw [List.length_append,zg6]
 exact h
theorem OwnW.below {w w':World}{base e:Nat}{v:Value}{l:List Wd}{B:Nat}(h:OwnW w base e v l) (hb:Below B w w') (hB:w.heap.size<=B):OwnW w' base e v l:=by
 refine ⟨h.1,?_⟩
 rcases h.2 with hn|⟨g,cap,cur,rfl,hbg,hg,rest⟩
 ·exact .inl hn
 ·refine .inr ⟨g,cap,cur,rfl,hbg,?_,rest⟩
  rw [hb.block g (by have:=(Array.getElem?_eq_some_iff.1 hg).1;omega)]
  exact hg
theorem OwnW.set {w:World}{base e:Nat}{v:Value}{l:List Wd}(h:OwnW w base e v l) {a:Addr}(ha:a.block < base) (u:Value):OwnW (w.setCell a u) base e v l:=ownsRow_setCell_below h ha u
theorem OwnW.base {w:World}{base base' e:Nat}{v:Value}{l:List Wd}(h:OwnW w base e v l) (hb:base'<=base):OwnW w base' e v l:=
 ⟨h.1,h.2.elim Or.inl (fun ⟨g,cap,cur,hv,hg,r⟩=>Or.inr ⟨g,cap,cur,hv,zn5 hb hg,r⟩)⟩
def zcQ (acc:List Wd) (r:Rs):Rs:=if r.2.2=0 then (acc++r.1,r.2) else r
theorem zjI (r:Rs):zcQ [] r=r:=by unfold zcQ;split<;>simp
theorem zkx (acc:List Wd) (w:Wd) (r:Rs):zcQ acc (pre w r)=zcQ (acc++[w]) r:=by
 unfold zcQ pre
 by_cases h:r.2.2=0
 ·simp [h]
 ·simp [h]
theorem zko (acc:List Wd) (ln co:Int) (n:Nat):zcQ acc (zbp [] ln co n)=(acc,(0,0),0):=by rw [zc9];simp [zcQ]
theorem zgk (acc:List Wd) (p:Int × Int) (e:Int) (h:e≠0):zcQ acc ([],p,e)=([],p,e):=by unfold zcQ;rw [if_neg h]
theorem At.keepB {w w':World}{X B:Nat}{a b:Value}(h:At w X a b) (hb:Below B w w') (hX:X < B):At w' X a b:=by
 refine ⟨?_,?_,?_,?_⟩
 ·rw [hb.cell (p:=⟨X,0,none⟩) hX];exact h.1
 ·rw [hb.cell (p:=⟨X,1,none⟩) hX];exact h.2.1
 ·rw [hb.frozen (p:=⟨X,0,none⟩) hX];exact h.2.2.1
 ·rw [hb.frozen (p:=⟨X,1,none⟩) hX];exact h.2.2.2
def ndC:(d:Nat)->T d->Nat:=zbT (fun _ _ _ l=>min (l.sum+1) 41)
theorem zmH {d:Nat}(k n:Int) (s:ByteArray) (ps:List (T d)):ndC (d+1) (mkT k n s ps)=min ((ps.map (ndC d)).sum+1) 41:=rfl
def dpC:(d:Nat)->T d->Nat:=zbT (fun _ _ _ l=>l.foldl max 0+1)
theorem zkT {d:Nat}(k n:Int) (s:ByteArray) (ps:List (T d)):dpC (d+1) (mkT k n s ps)=(ps.map (dpC d)).foldl max 0+1:=rfl
def zm2:List (List UInt8):=[[43],[45],[42],[60],[60,61],[61,61],[33,61],[38,38],[124,124]]
def opr (s:ByteArray):Bool:=zm2.any (fun x=>bl s == x)
def sdC:(d:Nat)->T d->Bool:=zbT (fun k n s l=>if k=1 then decide (0<=n) && decide (n<=1000000000) else if k=2 then zae (bl s) else if k=3∨k=4 then l.all id else if k=5 then opr s && l.all id else false)
theorem zjU {d:Nat}(k n:Int) (s:ByteArray) (ps:List (T d)):sdC (d+1) (mkT k n s ps) =
  if k=1 then decide (0<=n) && decide (n<=1000000000) else if k=2 then zae (bl s) else if k=3∨k=4 then ps.all (sdC d) else if k=5 then opr s && ps.all (sdC d) else false:=by
 have e:(ps.map (sdC d)).all id=ps.all (sdC d):=by rw [List.all_map];rfl
 rw [<- e]
 rfl
def fmC (d:Nat) (t:T d):Bool:=decide (ndC d t<=40) && decide (dpC d t<=12) && sdC d t
theorem zeL {α:Type}(f:α->Bool) (l:List α) (j:Nat) (h:j < l.length) (h1:(l.take j).all f=true) (h2:f l[j]=true):(l.take (j+1)).all f=true:=by
 rw [List.take_succ_eq_append_getElem h,List.all_append,h1];simp [h2]
theorem zlR {α:Type}(f:α->Bool) (l:List α) (j:Nat) (h:j < l.length) (h2:f l[j]=false):l.all f=false:=by
 rw [List.all_eq_false];exact ⟨l[j],List.getElem_mem h,by rw [h2];decide⟩
def zax {α β:Type}(f:α->β->Bool):List α->List β->Bool
 | a :: x,b :: y=>f a b && zax f x y
 | _,_=>true
def zaL:(d e:Nat)->T d->T e->Bool
 | 0,_,t,_=>Empty.elim t
 | _+1,0,_,u=>Empty.elim u
 | d+1,e+1,t,u=>
  decide ((show Int × Int × ByteArray × List (T d) from t).1=(show Int × Int × ByteArray × List (T e) from u).1) && decide ((show Int × Int × ByteArray × List (T d) from t).2.1=(show Int × Int × ByteArray × List (T e) from u).2.1) &&
  decide ((show Int × Int × ByteArray × List (T d) from t).2.2.1=(show Int × Int × ByteArray × List (T e) from u).2.2.1) && decide ((show Int × Int × ByteArray × List (T d) from t).2.2.2.length=(show Int × Int × ByteArray × List (T e) from u).2.2.2.length) &&
  zax (zaL d e) (show Int × Int × ByteArray × List (T d) from t).2.2.2 (show Int × Int × ByteArray × List (T e) from u).2.2.2
theorem zca {d e:Nat}(k n:Int) (s:ByteArray) (ps:List (T d)) (k' n':Int) (s':ByteArray) (qs:List (T e)) :
  zaL (d+1) (e+1) (mkT k n s ps) (mkT k' n' s' qs)=(decide (k=k') && decide (n=n') && decide (s=s') && decide (ps.length=qs.length) && zax (zaL d e) ps qs):=rfl
theorem ziM {α β:Type}(f:α->β->Bool):∀ (x:List α) (y:List β) (j:Nat) (h1:j < x.length) (h2:j < y.length),zax f (x.drop j) (y.drop j)=(f x[j] y[j] && zax f (x.drop (j+1)) (y.drop (j+1))):=fun x y j h1 h2=>by
 rw [List.drop_eq_getElem_cons h1,List.drop_eq_getElem_cons h2];rfl
theorem zge {a b:ByteArray}(h:a≠b):(a.toList == b.toList)=false:=by
 rw [ByteArray.toList_eq,ByteArray.toList_eq]
 exact beq_eq_false_iff_ne.2 (fun e=>h (ByteArray.ext (Array.toList_inj.1 e)))
theorem zfr:∀ (d:Nat) (t:T d),zaL d d t t=true
 | 0,t=>Empty.elim t
 | d+1,t=>by
  obtain ⟨k,n,s,ps,rfl⟩:=T.open t
  rw [zca]
  have:∀ l:List (T d),zax (zaL d d) l l=true:=fun l=>by
   induction l with
   | nil=>rfl
   | cons p r ih=>show (zaL d d p p && zax (zaL d d) r r)=true;rw [zfr d p,ih];rfl
  rw [this]
  simp
abbrev Sx:=(d:Nat) × T d
def zjq (d:Nat) (t:T d):(k:Nat)->T (d+k)
 | 0=>t
 | k+1=>zjw (d+k) (zjq d t k)
theorem zdF {α:Type}(f:Int->Int->ByteArray->List α->α) (d:Nat) (t:T d):∀ k,zbT f (d+k) (zjq d t k)=zbT f d t
 | 0=>rfl
 | k+1=>(ze5 f (d+k) (zjq d t k)).trans (zdF f d t k)
theorem zfL (d:Nat) (t:T d) (h:Cl d t):∀ k,Cl (d+k) (zjq d t k)
 | 0=>h
 | k+1=>zd4 _ _ (zfL d t h k)
def turn {a b:Nat}(h:a=b) (t:T a):T b:=h ▸ t
theorem zi5 {α:Type}(f:Int->Int->ByteArray->List α->α) {a b:Nat}(h:a=b) (t:T a):zbT f b (turn h t)=zbT f a t:=by subst h;rfl
theorem zlU {a b:Nat}(h:a=b) (t:T a) (hc:Cl a t):Cl b (turn h t):=by subst h;exact hc
def zel {α:Type}(f:Int->Int->ByteArray->List α->α) (x:Sx):α:=zbT f x.1 x.2
def ClX (x:Sx):Prop:=Cl x.1 x.2
def mk0 (k n:Int) (s:ByteArray):Sx:=⟨1,mkT k n s []⟩
def mk1 (k:Int) (x:Sx):Sx:=⟨x.1+1,mkT k 0 ⟨#[]⟩ [x.2]⟩
def mk2 (s:ByteArray) (x y:Sx):Sx:=⟨x.1+y.1+1,mkT 5 0 s [zjq x.1 x.2 y.1,turn (Nat.add_comm y.1 x.1) (zjq y.1 y.2 x.1)]⟩
theorem zb2 {α:Type}(f:Int->Int->ByteArray->List α->α) (s:ByteArray) (x y:Sx):zel f (mk2 s x y)=f 5 0 s [zel f x,zel f y]:=by
 show f 5 0 s [zbT f _ _,zbT f _ _]=_
 rw [zdF,zi5,zdF]
 rfl
theorem zm3 {k:Int}{x:Sx}(hk:k=3∨k=4) (h:ClX x):ClX (mk1 k x):=.inr (.inr (.inl ⟨hk,rfl,rfl,_,rfl,h⟩))
theorem znk {s:ByteArray}{x y:Sx}(h:ClX x) (h':ClX y):ClX (mk2 s x y):=.inr (.inr (.inr (.inl ⟨rfl,rfl,_,_,rfl,zfL _ _ h _,zlU _ _ (zfL _ _ h' _)⟩)))
abbrev Tk:=Nat × List UInt8
def lv (s:List UInt8):Nat:=if s=[124,124] then 1 else if s=[38,38] then 2 else if s=[60]∨s=[60,61]∨s=[61,61]∨s=[33,61] then 3 else if s=[43]∨s=[45] then 4 else if s=[42] then 5 else 0
theorem zkN (s:List UInt8):lv s<=5:=by
 unfold lv
 repeat' split
 all_goals omega
def noX:Sx:=mk0 0 0 ⟨#[]⟩
abbrev Rd3:=Sx × Nat × Int
def ze9 (at':Nat) (bad:Int):Rd3:=(noX,at',if bad < 0 then (at':Int) else bad)
section
variable (nb:List UInt8->Int) (rsv:List UInt8->Bool) (l:List Tk)
def isT (s:List UInt8) (at':Nat) (bad:Int):Bool:=decide (bad < 0) && (match l[at']? with|some w=>decide (w.2=s)|none=>false)
def lop (next:Nat->Int->Rd3) (k:Nat):Nat->Rd3->Rd3
 | 0,r=>r
 | g+1,r=>match l[r.2.1]? with
  | none=>r
  | some w=>if r.2.2 < 0/\lv w.2=k then
    (if k=3 then (mk2 ⟨w.2.toArray⟩ r.1 (next (r.2.1+1) r.2.2).1,(next (r.2.1+1) r.2.2).2) else lop next k g (mk2 ⟨w.2.toArray⟩ r.1 (next (r.2.1+1) r.2.2).1,(next (r.2.1+1) r.2.2).2))
   else r
def psr:Nat->Nat->Nat->Int->Rd3
 | 0,_,at',bad=>ze9 at' bad
 | f+1,k,at',bad=>
  if k=6 then
   (if 0<=bad then ze9 at' bad else match l[at']? with
   | none=>ze9 at' bad
   | some w=>
    if w.2=[33]∨w.2=[45] then (mk1 (if w.2=[45] then 4 else 3) (psr f 6 (at'+1) bad).1,(psr f 6 (at'+1) bad).2)
    else if w.2=[40] then (if isT l [41] (psr f 1 (at'+1) bad).2.1 (psr f 1 (at'+1) bad).2.2=true then ((psr f 1 (at'+1) bad).1,(psr f 1 (at'+1) bad).2.1+1,(psr f 1 (at'+1) bad).2.2) else ze9 (psr f 1 (at'+1) bad).2.1 (psr f 1 (at'+1) bad).2.2)
    else if w.1=2 then (mk0 1 (nb w.2) ⟨#[]⟩,at'+1,bad)
    else if w.1=1/\rsv w.2=false then (mk0 2 0 ⟨w.2.toArray⟩,at'+1,bad)
    else ze9 at' bad)
  else lop l (psr f (k+1)) k l.length (psr f (k+1) at' bad)
end
section
variable {nb:List UInt8->Int}{rsv:List UInt8->Bool}{l:List Tk}
variable {dc:Int->List UInt8}
end
abbrev Sg2:=List UInt8 × Nat
structure Yd where
 V:List Sx
 W:List Sg2
 o:Nat
 b:Bool
def zbV (W:List Sg2):Nat:=match W with | []=>0|s :: _=>s.2
def jn1 (V:List Sx) (s:Sg2):List Sx:=
 if s.2=6 then (match V with|x :: r=>mk1 (if s.1=[33] then 3 else 4) x :: r|r=>r)
 else (match V with|x :: y :: r=>mk2 ⟨s.1.toArray⟩ y x :: r|r=>r)
def jn (k:Nat):List Sx->List Sg2->List Sx × List Sg2
 | V,[]=>(V,[])
 | V,s :: W=>if k<=s.2 then jn k (jn1 V s) W else (V,s :: W)
theorem zbq {k:Nat}{V:List Sx}{W:List Sg2}(h:zbV W < k):jn k V W=(V,W):=by
 cases W with
 | nil=>rfl
 | cons s W=>unfold jn;rw [if_neg (by simpa [zbV] using h)]
theorem zfc {k k':Nat}(h:k<=k'):∀ (W:List Sg2) (V:List Sx),jn k (jn k' V W).1 (jn k' V W).2=jn k V W
 | [],V=>rfl
 | s :: W,V=>by
  by_cases hs:k'<=s.2
  ·rw [jn,if_pos hs,zfc h W,jn,if_pos (zn5 h hs)]
  ·rw [jn,if_neg hs]
section
variable (leaf:Tk->Option Sx)
def stA (y:Yd) (w:Tk):Yd × Bool:=
 if w.1≠3 then (match leaf w with|some x=>(⟨x :: y.V,y.W,y.o,true⟩,true)|none=>(y,false))
 else if w.2=[40] then (⟨y.V,(w.2,0) :: y.W,y.o+1,y.b⟩,true)
 else if w.2=[33]∨w.2=[45] then (⟨y.V,(w.2,6) :: y.W,y.o,y.b⟩,true)
 else (y,false)
def stB (y:Yd) (w:Tk):Yd × Bool:=
 if w.1≠3 then (y,false)
 else if w.2=[41] then (if y.o=0 then (y,false) else (⟨(jn 1 y.V y.W).1,(jn 1 y.V y.W).2.tail,y.o - 1,y.b⟩,true))
 else if lv w.2=0 then (y,false)
 else if lv w.2=3/\zbV (jn (lv w.2+1) y.V y.W).2=3 then (⟨(jn (lv w.2+1) y.V y.W).1,(jn (lv w.2+1) y.V y.W).2,y.o,y.b⟩,false)
 else (⟨(jn (lv w.2) y.V y.W).1,(w.2,lv w.2) :: (jn (lv w.2) y.V y.W).2,y.o,false⟩,true)
def stp (y:Yd) (w:Tk):Yd × Bool:=if y.b=true then stB y w else stA leaf y w
def zaI (y:Yd) (n:Nat):Option Sx × Nat:=if y.b=true/\y.o=0 then ((jn 1 y.V y.W).1.head?,n) else (none,n)
def zlm:Yd->List Tk->Nat->Option Sx × Nat
 | y,[],n=>zaI y n
 | y,w :: r,n=>if (stp leaf y w).2=true then zlm (stp leaf y w).1 r (n+1) else zaI (stp leaf y w).1 n
def rnY (l:List Tk) (y:Yd) (n:Nat):Option Sx × Nat:=zlm leaf y (l.drop n) n
end
section
variable {leaf:Tk->Option Sx}{l:List Tk}
theorem zbW {y:Yd}{n:Nat}(h:l[n]?=none):rnY leaf l y n=zaI y n:=by
 unfold rnY
 rw [List.drop_eq_nil_iff.2 (List.getElem?_eq_none_iff.1 h)];rfl
theorem zcG {y:Yd}{n:Nat}{w:Tk}(h:l[n]?=some w):rnY leaf l y n=if (stp leaf y w).2=true then rnY leaf l (stp leaf y w).1 (n+1) else zaI (stp leaf y w).1 n:=by
 obtain ⟨hl,hw⟩:=List.getElem?_eq_some_iff.1 h
 unfold rnY
 rw [List.drop_eq_getElem_cons hl,hw];rfl
theorem rnB {V:List Sx}{W:List Sg2}{o n:Nat}{w:Tk}{y':Yd}(h:l[n]?=some w) (hs:stB ⟨V,W,o,true⟩ w=(y',true)):rnY leaf l ⟨V,W,o,true⟩ n=rnY leaf l y' (n+1):=by
 rw [zcG h,show stp leaf ⟨V,W,o,true⟩ w=(y',true) from hs,if_pos rfl]
theorem zaE {V:List Sx}{W:List Sg2}{o n:Nat}{w:Tk}{y':Yd}(h:l[n]?=some w) (hs:stB ⟨V,W,o,true⟩ w=(y',false)):rnY leaf l ⟨V,W,o,true⟩ n=zaI y' n:=by
 rw [zcG h,show stp leaf ⟨V,W,o,true⟩ w=(y',false) from hs,if_neg Bool.false_ne_true]
theorem za0 {y:Yd}{w:Tk}(h:w.1≠3):stB y w=(y,false):=by unfold stB;rw [if_pos h]
theorem zbX {y:Yd}{w:Tk}(h:¬ w.1≠3) (h4:w.2=[41]) (ho:y.o=0):stB y w=(y,false):=by unfold stB;rw [if_neg h,if_pos h4,if_pos ho]
theorem zcC {y:Yd}{w:Tk}(h:¬ w.1≠3) (h4:w.2=[41]) (ho:¬ y.o=0):stB y w=(⟨(jn 1 y.V y.W).1,(jn 1 y.V y.W).2.tail,y.o - 1,y.b⟩,true):=by unfold stB;rw [if_neg h,if_pos h4,if_neg ho]
theorem zb7 {y:Yd}{w:Tk}(h:¬ w.1≠3) (h4:¬ w.2=[41]) (hl:lv w.2=0):stB y w=(y,false):=by unfold stB;rw [if_neg h,if_neg h4,if_pos hl]
theorem zkz {s:List UInt8}(h:lv s≠0):¬ s=[41]:=fun e=>by
 rw [e] at h
 exact h (by decide)
theorem zdx {y:Yd}{w:Tk}(h:¬ w.1≠3) (hl:lv w.2=3) (ht:zbV (jn 4 y.V y.W).2=3):stB y w=(⟨(jn 4 y.V y.W).1,(jn 4 y.V y.W).2,y.o,y.b⟩,false):=by
 unfold stB
 rw [if_neg h,if_neg (zkz (by omega)),if_neg (by omega),hl,if_pos ⟨rfl,ht⟩]
theorem zcZ {y:Yd}{w:Tk}{k:Nat}(h:¬ w.1≠3) (hl:lv w.2=k) (hk:1<=k) (ht:¬ (k=3/\zbV (jn (k+1) y.V y.W).2=3)):stB y w=(⟨(jn k y.V y.W).1,(w.2,k) :: (jn k y.V y.W).2,y.o,false⟩,true):=by
 unfold stB
 rw [if_neg h,if_neg (zkz (by omega)),if_neg (by omega),hl,if_neg ht]
theorem zce {k:Nat}(hk:1<=k) (V:List Sx) (W:List Sg2) (o:Nat) (b:Bool) (n:Nat):zaI ⟨(jn k V W).1,(jn k V W).2,o,b⟩ n=zaI ⟨V,W,o,b⟩ n:=by
 unfold zaI
 simp only [zfc hk]
def zgh (l:List Tk) (k n:Nat):Prop:=∀ w,l[n]?=some w->lv w.2 < k
theorem zfE {k:Nat}(hk:1<=k) {V:List Sx}{W:List Sg2}{o n:Nat}(hn:zgh l k n):rnY leaf l ⟨V,W,o,true⟩ n=rnY leaf l ⟨(jn k V W).1,(jn k V W).2,o,true⟩ n:=by
 cases hw:l[n]? with
 | none=>rw [zbW hw,zbW hw,zce hk]
 | some w=>
  have hlt:=hn w hw
  by_cases h3:w.1≠3
  ·rw [zaE hw (za0 h3),zaE hw (za0 h3),zce hk]
  by_cases h4:w.2=[41]
  ·by_cases ho:o=0
   ·rw [zaE hw (zbX h3 h4 ho),zaE hw (zbX h3 h4 ho),zce hk]
   ·rw [rnB hw (zcC h3 h4 ho),rnB hw (zcC h3 h4 ho)]
    simp only [zfc hk]
  by_cases h0:lv w.2=0
  ·rw [zaE hw (zb7 h3 h4 h0),zaE hw (zb7 h3 h4 h0),zce hk]
  have hjj:=zfc (k:=lv w.2+1) (k':=k) (by omega) W V
  by_cases ht:lv w.2=3/\zbV (jn (lv w.2+1) V W).2=3
  ·obtain ⟨ht1,ht2⟩:=ht
   rw [ht1] at ht2 hjj
   rw [zaE hw (zdx h3 ht1 ht2),zaE hw (zdx h3 ht1 (by rw [hjj];exact ht2))]
   simp only [hjj]
  ·rw [rnB hw (zcZ h3 rfl (by omega) ht),rnB hw (zcZ h3 rfl (by omega) (by rw [hjj];exact ht))]
   simp only [zfc (k:=lv w.2) (k':=k) (by omega)]
theorem zjs {k:Nat}(hk:1<=k) (h3:k≠3) (hk6:k<=5) {x z:Sx}{V:List Sx}{W:List Sg2}{t:List UInt8}{o n:Nat}(hW:zbV W < k) (hn:zgh l (k+1) n) :
  rnY leaf l ⟨z :: x :: V,(t,k) :: W,o,true⟩ n=rnY leaf l ⟨mk2 ⟨t.toArray⟩ x z :: V,W,o,true⟩ n:=by
 have hj:jn k (z :: x :: V) ((t,k) :: W)=(mk2 ⟨t.toArray⟩ x z :: V,W):=by
  rw [jn,if_pos (Nat.le_refl _)]
  show jn k (jn1 (z :: x :: V) (t,k)) W=_
  unfold jn1
  rw [if_neg (by show ¬ k=6;omega)]
  exact zbq hW
 by_cases hlt:zgh l k n
 ·rw [zfE hk hlt,hj]
 ·obtain ⟨w,hw⟩:=Classical.not_forall.1 hlt
  obtain ⟨hw1,hw2⟩:=Classical.not_imp.1 hw
  have hle:=hn w hw1
  have hk':lv w.2=k:=by omega
  by_cases h3':w.1≠3
  ·rw [zaE hw1 (za0 h3'),zaE hw1 (za0 h3')]
   have:=zce (k:=k) hk (z :: x :: V) ((t,k) :: W) o true n
   rw [hj] at this
   exact this.symm
  rw [rnB hw1 (zcZ h3' hk' hk (fun h=>h3 h.1)),rnB hw1 (zcZ h3' hk' hk (fun h=>h3 h.1))]
  simp only [hj,zbq hW]
end
section
variable {nb:List UInt8->Int}{rsv:List UInt8->Bool}{l:List Tk}
def zL (nb:List UInt8->Int) (rsv:List UInt8->Bool) (w:Tk):Option Sx:=
 if w.1=2 then some (mk0 1 (nb w.2) ⟨#[]⟩) else if w.1=1/\rsv w.2=false then some (mk0 2 0 ⟨w.2.toArray⟩) else none
def ziS (w:Tk):Prop:=(w.1=1∨w.1=2∨w.1=3)/\(w.1≠3->lv w.2=0/\w.2≠[33]/\w.2≠[45]/\w.2≠[40]/\w.2≠[41])
def znH (leaf:Tk->Option Sx) (l:List Tk) (k:Nat) (V:List Sx) (W:List Sg2) (o n:Nat) (out:Option Sx × Nat) (r:Rd3):Prop:=
 (∃ m:Nat,r.2.2=(m:Int)/\out=(none,m))∨
 (r.2.2 = -1/\n<=r.2.1/\zgh l k r.2.1/\out=rnY leaf l ⟨r.1 :: V,W,o,true⟩ r.2.1)∨
 (r.2.2 = -1/\n<=r.2.1/\k<=3/\(∃ w,l[r.2.1]?=some w/\lv w.2=3)/\out=zaI ⟨r.1 :: V,W,o,true⟩ r.2.1)
theorem ziD {next:Nat->Int->Rd3}{k:Nat}{x:Sx}{n m:Nat}:∀ G,lop l next k G (x,n,(m:Int))=(x,n,(m:Int))
 | 0=>rfl
 | G+1=>by
  unfold lop
  cases l[n]? with
  | none=>rfl
  | some w=>simp only;rw [if_neg (fun h=>by have:=h.1;omega)]
theorem zfT {next:Nat->Int->Rd3}{k:Nat}{x:Sx}{n:Nat}{b:Int}(h:∀ w,l[n]?=some w->lv w.2≠k):∀ G,lop l next k G (x,n,b)=(x,n,b)
 | 0=>rfl
 | G+1=>by
  unfold lop
  cases hw:l[n]? with
  | none=>rfl
  | some w=>simp only;rw [if_neg (fun q=>h w hw q.2)]
def zmc (nb:List UInt8->Int) (rsv:List UInt8->Bool) (l:List Tk) (f:Nat):Prop:=∀ (k n:Nat) (V:List Sx) (W:List Sg2) (o:Nat),1<=k->k<=6->(k=6∨zbV W < k)->7*(l.length - n)+(6 - k) < f->
 znH (zL nb rsv) l k V W o n (rnY (zL nb rsv) l ⟨V,W,o,false⟩ n) (psr nb rsv l f k n (-1))
theorem zgJ (hl:∀ w∈l,ziS w) {f:Nat}(IH:zmc nb rsv l f) {k:Nat}(hk:1<=k) (hk5:k<=5) {V:List Sx}{W:List Sg2}{o n0:Nat}(hW:zbV W < k) (out:Option Sx × Nat):∀ (G n:Nat) (x:Sx),l.length - n<=G->n0<=n->7*(l.length - n)+(6 - (k+1)) < f->zgh l (k+1) n->out=rnY (zL nb rsv) l ⟨x :: V,W,o,true⟩ n->
  znH (zL nb rsv) l k V W o n0 out (lop l (psr nb rsv l f (k+1)) k G (x,n,-1))
 | 0,n,x,hG,h0,hf,hn,ho=>by
  refine .inr (.inl ⟨rfl,h0,fun w hw=>?_,ho⟩)
  have:=(List.getElem?_eq_some_iff.1 hw).1
  simp only [lop] at this
  omega
 | G+1,n,x,hG,h0,hf,hn,ho=>by
  by_cases hq:zgh l k n
  ·rw [zfT (fun w hw=>Nat.ne_of_lt (hq w hw))]
   exact .inr (.inl ⟨rfl,h0,hq,ho⟩)
  ·obtain ⟨w,hw⟩:=Classical.not_forall.1 hq
   obtain ⟨hw1,hw2⟩:=Classical.not_imp.1 hw
   have hle:=hn w hw1
   have hkw:lv w.2=k:=by omega
   have hlt:=(List.getElem?_eq_some_iff.1 hw1).1
   rw [lop]
   simp only [hw1]
   rw [if_pos ⟨by decide,hkw⟩]
   have hstep:out=rnY (zL nb rsv) l ⟨x :: V,(w.2,k) :: W,o,false⟩ (n+1):=by
    have hg:=hl w (List.mem_of_getElem? hw1)
    have h3w:¬ w.1≠3:=fun h=>by have:=(hg.2 h).1;omega
    rw [ho,rnB hw1 (zcZ h3w hkw hk (fun h=>by
     have h2:=h.2
     rw [zbq (by show zbV W < k+1;omega)] at h2
     simp only at h2
     omega))]
    simp only [zbq (V:=x :: V) hW]
   have ih:=IH (k+1) (n+1) (x :: V) ((w.2,k) :: W) o (by omega) (by omega) (.inr (by show k < k+1;omega)) (by omega)
   rw [<- hstep] at ih
   obtain ⟨r,hr⟩:∃ r,psr nb rsv l f (k+1) (n+1) (-1)=r:=⟨_,rfl⟩
   obtain ⟨z,n',b'⟩:=r
   rw [hr] at ih ⊢
   rcases ih with ⟨m,e1,e2⟩|⟨e1,e2,e3,e4⟩|⟨e1,e2,e3,e4,e5⟩
   ·simp only at e1 e2
    subst e1
    simp only [ziD,ite_self]
    exact .inl ⟨m,rfl,e2⟩
   ·simp only at e1 e2 e3 e4
    subst e1
    by_cases h3:k=3
    ·subst h3
     simp only [if_true]
     have hj:jn 3 (z :: x :: V) ((w.2,3) :: W)=(mk2 ⟨w.2.toArray⟩ x z :: V,W):=by
      rw [jn,if_pos (Nat.le_refl _)]
      show jn 3 (jn1 (z :: x :: V) (w.2,3)) W=_
      unfold jn1
      rw [if_neg (by show ¬ 3=6;decide)]
      exact zbq hW
     by_cases hq2:zgh l 3 n'
     ·refine .inr (.inl ⟨rfl,by show n0<=n';omega,hq2,?_⟩)
      rw [e4,zfE (by omega) hq2,hj]
     ·obtain ⟨w',hw'⟩:=Classical.not_forall.1 hq2
      obtain ⟨hv1,hv2⟩:=Classical.not_imp.1 hw'
      have hle':=e3 w' hv1
      have hkw':lv w'.2=3:=by omega
      refine .inr (.inr ⟨rfl,by show n0<=n';omega,by omega,⟨w',hv1,hkw'⟩,?_⟩)
      have hs:jn 4 (z :: x :: V) ((w.2,3) :: W)=(z :: x :: V,(w.2,3) :: W):=zbq (by show 3 < 4;omega)
      have:=zce (k:=3) (by omega) (z :: x :: V) ((w.2,3) :: W) o true n'
      rw [hj] at this
      simp only at this ⊢
      rw [this,e4]
      by_cases h3':w'.1≠3
      ·rw [zaE hv1 (za0 h3')]
      rw [zaE hv1 (zdx h3' hkw' (by show zbV (jn 4 (z :: x :: V) ((w.2,3) :: W)).2=3;rw [hs];rfl))]
      simp only [hs]
    ·rw [if_neg h3]
     exact zgJ hl IH hk hk5 hW out G n' (mk2 ⟨w.2.toArray⟩ x z) (by omega) (by omega) (by omega) e3 (by rw [e4];exact zjs hk h3 hk5 hW e3)
   ·simp only at e1 e2 e3 e4 e5
    subst e1
    obtain ⟨w',hv1,hv2⟩:=e4
    have hj:jn k (z :: x :: V) ((w.2,k) :: W)=(mk2 ⟨w.2.toArray⟩ x z :: V,W):=by
     rw [jn,if_pos (Nat.le_refl _)]
     show jn k (jn1 (z :: x :: V) (w.2,k)) W=_
     unfold jn1
     rw [if_neg (by show ¬ k=6;omega)]
     exact zbq hW
    rw [if_neg (by omega),zfT (fun u hu=>by rw [hv1] at hu;injection hu with hu;subst hu;omega)]
    refine .inr (.inr ⟨rfl,by show n0<=n';omega,by omega,⟨w',hv1,hv2⟩,?_⟩)
    rw [e5,<- zce hk,hj]
theorem zgK {f n:Nat}(h:l[n]?=none):psr nb rsv l (f+1) 6 n (-1)=(noX,n,(n:Int)):=by
 rw [psr,if_pos rfl,if_neg (by decide),h];rfl
theorem zh9 {f n:Nat}{w:Tk}(h:l[n]?=some w) (hu:w.2=[33]∨w.2=[45]):psr nb rsv l (f+1) 6 n (-1)=(mk1 (if w.2=[45] then 4 else 3) (psr nb rsv l f 6 (n+1) (-1)).1,(psr nb rsv l f 6 (n+1) (-1)).2):=by
 rw [psr,if_pos rfl,if_neg (by decide),h]
 simp only
 rw [if_pos hu]
theorem zgf {f n:Nat}{w:Tk}(h:l[n]?=some w) (hu:w.2=[40]):psr nb rsv l (f+1) 6 n (-1)=if isT l [41] (psr nb rsv l f 1 (n+1) (-1)).2.1 (psr nb rsv l f 1 (n+1) (-1)).2.2=true then ((psr nb rsv l f 1 (n+1) (-1)).1,(psr nb rsv l f 1 (n+1) (-1)).2.1+1,(psr nb rsv l f 1 (n+1) (-1)).2.2) else ze9 (psr nb rsv l f 1 (n+1) (-1)).2.1 (psr nb rsv l f 1 (n+1) (-1)).2.2:=by
 rw [psr,if_pos rfl,if_neg (by decide),h]
 simp only
 rw [if_neg (by rw [hu];decide),if_pos hu]
theorem zeY {f n:Nat}{w:Tk}(h:l[n]?=some w) (h1:¬ (w.2=[33]∨w.2=[45])) (h2:¬ w.2=[40]):psr nb rsv l (f+1) 6 n (-1)=match zL nb rsv w with|some x=>(x,n+1,-1)|none=>(noX,n,(n:Int)):=by
 rw [psr,if_pos rfl,if_neg (by decide),h]
 simp only
 rw [if_neg h1,if_neg h2]
 unfold zL
 by_cases h3:w.1=2
 ·rw [if_pos h3,if_pos h3]
 rw [if_neg h3,if_neg h3]
 by_cases h4:w.1=1/\rsv w.2=false
 ·rw [if_pos h4,if_pos h4]
 ·rw [if_neg h4,if_neg h4];rfl
theorem rnA {leaf:Tk->Option Sx}{V:List Sx}{W:List Sg2}{o n:Nat}{w:Tk}{y':Yd}(h:l[n]?=some w) (hs:stA leaf ⟨V,W,o,false⟩ w=(y',true)):rnY leaf l ⟨V,W,o,false⟩ n=rnY leaf l y' (n+1):=by
 rw [zcG h,show stp leaf ⟨V,W,o,false⟩ w=(y',true) from hs,if_pos rfl]
theorem znv {leaf:Tk->Option Sx}{V:List Sx}{W:List Sg2}{o n:Nat}{w:Tk}{y':Yd}(h:l[n]?=some w) (hs:stA leaf ⟨V,W,o,false⟩ w=(y',false)):rnY leaf l ⟨V,W,o,false⟩ n=zaI y' n:=by
 rw [zcG h,show stp leaf ⟨V,W,o,false⟩ w=(y',false) from hs,if_neg Bool.false_ne_true]
theorem zjS (hl:∀ w∈l,ziS w) (f:Nat) (IH:zmc nb rsv l f):zmc nb rsv l (f+1):=by
 intro k n V W o hk hk6 hW hf
 by_cases h6:k=6
 ·subst h6
  cases hw:l[n]? with
  | none=>
   rw [zgK hw,zbW hw]
   exact .inl ⟨n,rfl,rfl⟩
  | some w=>
   obtain ⟨hlt,_⟩:=List.getElem?_eq_some_iff.1 hw
   have hg:=hl w (List.mem_of_getElem? hw)
   have hn6:∀ m,zgh l 6 m:=fun m u hu=>by have:=zkN u.2;omega
   by_cases hu:w.2=[33]∨w.2=[45]
   ·have h3:¬ w.1≠3:=fun h=>hu.elim (hg.2 h).2.1 (hg.2 h).2.2.1
    have h40:¬ w.2=[40]:=by rcases hu with h|h<;>rw [h]<;>decide
    rw [zh9 hw hu,rnA hw (y':=⟨V,(w.2,6) :: W,o,false⟩) (by unfold stA;rw [if_neg h3,if_neg h40,if_pos hu])]
    have ih:=IH 6 (n+1) V ((w.2,6) :: W) o (by omega) (by omega) (.inl rfl) (by omega)
    obtain ⟨r,hr⟩:∃ r,psr nb rsv l f 6 (n+1) (-1)=r:=⟨_,rfl⟩
    obtain ⟨z,n',b'⟩:=r
    rw [hr] at ih ⊢
    rcases ih with ⟨m,e1,e2⟩|⟨e1,e2,e3,e4⟩|⟨e1,e2,e3,e4,e5⟩
    ·exact .inl ⟨m,e1,e2⟩
    ·refine .inr (.inl ⟨e1,zn5 (Nat.le_succ n) e2,hn6 _,?_⟩)
     have hk1:(if w.2=[33] then (3:Int) else 4)=if w.2=[45] then 4 else 3:=by
      rcases hu with h|h<;>rw [h]<;>decide
     rw [e4,zfE (k:=6) (by omega) e3]
     simp only
     rw [jn,if_pos (Nat.le_refl _)]
     show rnY _ l ⟨(jn 6 (mk1 (if w.2=[33] then 3 else 4) z :: V) W).1,(jn 6 (mk1 (if w.2=[33] then 3 else 4) z :: V) W).2,o,true⟩ n'=_
     rw [hk1,<- zfE (k:=6) (by omega) e3]
    ·omega
   ·by_cases h40:w.2=[40]
    ·have h3:¬ w.1≠3:=fun h=>(hg.2 h).2.2.2.1 h40
     rw [zgf hw h40,rnA hw (y':=⟨V,(w.2,0) :: W,o+1,false⟩) (by unfold stA;rw [if_neg h3,if_pos h40])]
     have ih:=IH 1 (n+1) V ((w.2,0) :: W) (o+1) (by omega) (by omega) (.inr (by show 0 < 1;omega)) (by omega)
     obtain ⟨r,hr⟩:∃ r,psr nb rsv l f 1 (n+1) (-1)=r:=⟨_,rfl⟩
     obtain ⟨z,n',b'⟩:=r
     rw [hr] at ih ⊢
     rcases ih with ⟨m,e1,e2⟩|⟨e1,e2,e3,e4⟩|⟨e1,e2,e3,e4,e5⟩
     ·simp only at e1 e2
      subst e1
      have hno:¬ isT l [41] n' (m:Int)=true:=by unfold isT;simp only [Bool.and_eq_true,decide_eq_true_eq];omega
      rw [if_neg hno]
      refine .inl ⟨m,?_,e2⟩
      show (if (m:Int) < 0 then (n':Int) else (m:Int))=_
      rw [if_neg (by omega)]
     ·simp only at e1 e2 e3 e4
      subst e1
      cases hw':l[n']? with
      | none=>
       have hno:¬ isT l [41] n' (-1)=true:=by unfold isT;simp only [hw'];simp
       rw [if_neg hno]
       refine .inl ⟨n',rfl,?_⟩
       rw [e4,zbW hw']
       unfold zaI
       rw [if_neg (fun h=>by have:=h.2;simp only at this;omega)]
      | some w'=>
       have hlv:=e3 w' hw'
       have hg':=hl w' (List.mem_of_getElem? hw')
       by_cases h41:w'.2=[41]
       ·have hk3:¬ w'.1≠3:=fun h=>(hg'.2 h).2.2.2.2 h41
        have hyes:isT l [41] n' (-1)=true:=by unfold isT;simp only [hw',h41];decide
        rw [if_pos hyes]
        refine .inr (.inl ⟨rfl,by show n<=n'+1;omega,hn6 _,?_⟩)
        rw [e4,rnB hw' (zcC hk3 h41 (by show ¬ o+1=0;omega))]
        simp only [zbq (k:=1) (V:=z :: V) (W:=(w.2,0) :: W) (by show 0 < 1;omega),List.tail_cons,Nat.add_sub_cancel]
       ·have hno:¬ isT l [41] n' (-1)=true:=by unfold isT;simp only [hw',h41];simp
        rw [if_neg hno]
        refine .inl ⟨n',rfl,?_⟩
        have key:∀ y:Yd,y.o=o+1->zaI y n'=(none,n'):=fun y hy=>by
         unfold zaI
         rw [if_neg (fun h=>by have:=h.2;omega)]
        rw [e4]
        by_cases hk3:w'.1≠3
        ·rw [zaE hw' (za0 hk3)];exact key _ rfl
        ·rw [zaE hw' (zb7 hk3 h41 (by omega))];exact key _ rfl
     ·simp only at e1 e2 e3 e4 e5
      subst e1
      obtain ⟨w',hv1,hv2⟩:=e4
      have h41:¬ w'.2=[41]:=fun e=>by rw [e] at hv2;revert hv2;decide
      have hno:¬ isT l [41] n' (-1)=true:=by unfold isT;simp only [hv1,h41];simp
      rw [if_neg hno]
      refine .inl ⟨n',rfl,?_⟩
      rw [e5]
      unfold zaI
      rw [if_neg (fun h=>by have:=h.2;simp only at this;omega)]
    ·rw [zeY hw hu h40]
     have hst:stA (zL nb rsv) ⟨V,W,o,false⟩ w=match zL nb rsv w with|some x=>(⟨x :: V,W,o,true⟩,true)|none=>(⟨V,W,o,false⟩,false):=by
      unfold stA
      by_cases h3:w.1=3
      ·rw [if_neg (by omega),if_neg h40,if_neg hu]
       unfold zL
       rw [if_neg (by omega),if_neg (fun h=>by omega)]
      ·rw [if_pos h3]
     cases hlf:zL nb rsv w with
     | some x=>
      rw [hlf] at hst
      rw [rnA hw hst]
      exact .inr (.inl ⟨rfl,Nat.le_succ n,hn6 _,rfl⟩)
     | none=>
      rw [hlf] at hst
      rw [znv hw hst]
      exact .inl ⟨n,rfl,rfl⟩
 ·have hk5:k<=5:=by omega
  have hWk:zbV W < k:=hW.resolve_left h6
  rw [psr,if_neg h6]
  have ih:=IH (k+1) n V W o (by omega) (by omega) (.inr (by omega)) (by omega)
  obtain ⟨r,hr⟩:∃ r,psr nb rsv l f (k+1) n (-1)=r:=⟨_,rfl⟩
  obtain ⟨z,n',b'⟩:=r
  rw [hr] at ih ⊢
  rcases ih with ⟨m,e1,e2⟩|⟨e1,e2,e3,e4⟩|⟨e1,e2,e3,e4,e5⟩
  ·simp only at e1 e2
   subst e1
   rw [ziD]
   exact .inl ⟨m,rfl,e2⟩
  ·simp only at e1 e2 e3 e4
   subst e1
   exact zgJ hl IH hk hk5 hWk _ l.length n' z (by omega) e2 (by omega) e3 e4
  ·simp only at e1 e2 e3 e4 e5
   subst e1
   obtain ⟨w',hv1,hv2⟩:=e4
   rw [zfT (fun u hu=>by rw [hv1] at hu;injection hu with hu;subst hu;omega)]
   exact .inr (.inr ⟨rfl,e2,by omega,⟨w',hv1,hv2⟩,e5⟩)
theorem zis (hl:∀ w∈l,ziS w):∀ f,zmc nb rsv l f
 | 0=>fun k n V W o _ _ _ hf=>absurd hf (Nat.not_lt_zero _)
 | f+1=>zjS hl f (zis hl f)
theorem zlo (hl:∀ w∈l,ziS w) {f:Nat}(hf:7*l.length+5 < f):rnY (zL nb rsv) l ⟨[],[],0,false⟩ 0=if (psr nb rsv l f 1 0 (-1)).2.2 < 0 then (some (psr nb rsv l f 1 0 (-1)).1,(psr nb rsv l f 1 0 (-1)).2.1) else (none,(psr nb rsv l f 1 0 (-1)).2.2.toNat):=by
 have h:=zis (nb:=nb) (rsv:=rsv) hl f 1 0 [] [] 0 (by omega) (by omega) (.inr (by show 0 < 1;omega)) (by omega)
 obtain ⟨r,hr⟩:∃ r,psr nb rsv l f 1 0 (-1)=r:=⟨_,rfl⟩
 obtain ⟨z,n',b'⟩:=r
 rw [hr] at h ⊢
 rcases h with ⟨m,e1,e2⟩|⟨e1,e2,e3,e4⟩|⟨e1,e2,e3,e4,e5⟩
 ·simp only at e1 e2 ⊢
  subst e1
  rw [e2,if_neg (by omega)];simp
 ·simp only at e1 e2 e3 e4 ⊢
  subst e1
  rw [e4,if_pos (by decide)]
  have key:zaI ⟨[z],[],0,true⟩ n'=(some z,n'):=rfl
  cases hw':l[n']? with
  | none=>rw [zbW hw',key]
  | some w'=>
   have hlv:=e3 w' hw'
   by_cases hk3:w'.1≠3
   ·rw [zaE hw' (za0 hk3)];exact key
   by_cases h41:w'.2=[41]
   ·rw [zaE hw' (zbX hk3 h41 rfl)];exact key
   ·rw [zaE hw' (zb7 hk3 h41 (by omega))];exact key
 ·simp only at e1 e2 e3 e4 e5 ⊢
  subst e1
  rw [e5,if_pos (by decide)];rfl
end
def opB (s:List UInt8):Prop:=s=[43]∨s=[45]∨s=[42]∨s=[60]∨s=[60,61]∨s=[61,61]∨s=[33,61]∨s=[38,38]∨s=[124,124]
def zjJ:List (List UInt8):=[[99,104,97,114,116],[118,97,114],[115,116,97,116,101],[97,108,108],[101,110,100],[100,111],[117,110,100,111],[97,116],[114,101,116,114,105,101,115],[111,110],[105,102],[103,111],[115,101,116]]
def zX (s:List UInt8):Bool:=zjJ.any (fun x=>s == x)
def plC:(d:Nat)->T d->Bool:=zbT (fun k _ s l=>!(decide (k=2) && zX s.data.toList) && l.all id)
theorem zm4 {d:Nat}(k n:Int) (s:ByteArray) (ps:List (T d)):plC (d+1) (mkT k n s ps)=(!(decide (k=2) && zX s.data.toList) && ps.all (plC d)):=by
 show (!(decide (k=2) && zX s.data.toList) && (ps.map (plC d)).all id)=_
 rw [List.all_map];rfl
theorem zhA {s:List UInt8}(h:lv s≠0):opB s:=by
 unfold lv at h
 unfold opB
 by_cases a:s=[124,124]
 ·simp [a]
 rw [if_neg a] at h
 by_cases b:s=[38,38]
 ·simp [b]
 rw [if_neg b] at h
 by_cases c:s=[60]∨s=[60,61]∨s=[61,61]∨s=[33,61]
 ·rcases c with c|c|c|c<;>simp [c]
 rw [if_neg c] at h
 by_cases e:s=[43]∨s=[45]
 ·rcases e with e|e<;>simp [e]
 rw [if_neg e] at h
 by_cases g:s=[42]
 ·simp [g]
 rw [if_neg g] at h
 exact absurd rfl h
theorem zkv {s:List UInt8}(h:zae s=true):lv s=0/\s≠[33]/\s≠[45]/\s≠[40]:=by
 have key:∀ c:UInt8,∀ r:List UInt8,c.toNat < 128->zS c.toNat=false->s≠c :: r:=fun c r h8 hl e=>by
  subst e
  unfold zae at h
  simp only [Bool.and_eq_true] at h
  have h1:=h.1.1
  rw [zdl h8,hl] at h1
  cases h1
 refine ⟨?_,key 33 [] (by decide) (by decide),key 45 [] (by decide) (by decide),key 40 [] (by decide) (by decide)⟩
 refine Classical.byContradiction (fun hl=>?_)
 rcases zhA hl with e|e|e|e|e|e|e|e|e
 ·exact key 43 [] (by decide) (by decide) e
 ·exact key 45 [] (by decide) (by decide) e
 ·exact key 42 [] (by decide) (by decide) e
 ·exact key 60 [] (by decide) (by decide) e
 ·exact key 60 [61] (by decide) (by decide) e
 ·exact key 61 [61] (by decide) (by decide) e
 ·exact key 33 [61] (by decide) (by decide) e
 ·exact key 38 [38] (by decide) (by decide) e
 ·exact key 124 [124] (by decide) (by decide) e
theorem zls {s:List UInt8}(h:zai s=true):lv s=0/\s≠[33]/\s≠[45]/\s≠[40]:=by
 have key:∀ c:UInt8,∀ r:List UInt8,dB c=false->s≠c :: r:=fun c r hl e=>by
  subst e
  unfold zai at h
  simp only [Bool.and_eq_true,List.all_cons] at h
  have h1:=h.1.2.1
  rw [hl] at h1
  cases h1
 refine ⟨?_,key 33 [] (by decide),key 45 [] (by decide),key 40 [] (by decide)⟩
 refine Classical.byContradiction (fun hl=>?_)
 rcases zhA hl with e|e|e|e|e|e|e|e|e
 ·exact key 43 [] (by decide) e
 ·exact key 45 [] (by decide) e
 ·exact key 42 [] (by decide) e
 ·exact key 60 [] (by decide) e
 ·exact key 60 [61] (by decide) e
 ·exact key 61 [61] (by decide) e
 ·exact key 33 [61] (by decide) e
 ·exact key 38 [38] (by decide) e
 ·exact key 124 [124] (by decide) e
