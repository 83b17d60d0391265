import Derived.Test.YtlgnahpfggagoaaGreatDoorWzc01
import Derived.Lib.ItoaNum
/- What the walks share: a text's bytes, names, numbers, signs, places, words in memory. -/
namespace Go.Proofs.YtlgnahpfggagoaaGreatDoor
open Go.RowKit Go.Lib
set_option linter.unusedSimpArgs false
set_option linter.unusedVariables false
/-- A text's bytes. -/
abbrev bl (s:ByteArray):List UInt8:=s.data.toList
theorem bl_length (s:ByteArray):(bl s).length=s.size:=rfl
theorem letter_eq (r:Int):letter r=(decide (97≤r) && decide (r≤122) || decide (65≤r) && decide (r≤90) || decide (1072≤r) && decide (r≤1103)):=by
 unfold letter
 rw [Bool.eq_iff_iff]
 simp
 omega
theorem dgt_eq (r:Int):dgt r=(decide (48≤r) && decide (r≤57)):=by
 unfold dgt
 rw [Bool.eq_iff_iff]
 simp
theorem ret_bool {a b:Bool}(h:a=b):Ending.returned (.bool a)=.returned (.bool b):=by rw [h]
/-- m runes that may stand in a name, of k bytes, lie behind us. -/
structure Adv (l:List UInt8) (m k:Nat):Prop where
 le:k≤l.length
 left:runes (l.drop k)=(runes l).drop m
 cnt:spn (runes l)=m+spn (runes (l.drop k))
 size:(byt ((runes l).take m)).length=k
 few:m≤k
theorem Adv.zero (l:List UInt8):Adv l 0 0:=⟨by omega,rfl,by simp,rfl,by omega⟩
theorem drop_ne {l:List UInt8}{k:Nat}(h:k < l.length):l.drop k≠[]:=by
 intro e
 have:=congrArg List.length e
 rw [List.length_drop] at this
 simp at this
 omega
theorem byt_split (rs:List Ru) (m:Nat):(byt rs).length=(byt (rs.take m)).length+(byt (rs.drop m)).length:=by
 rw [← List.length_append,← byt_append,List.take_append_drop]
theorem Adv.step {l:List UInt8}{m k:Nat}(h:Adv l m k) (hk:k < l.length) (hi:insd (nx (l.drop k)).1=true):Adv l (m+1) (k+(nx (l.drop k)).2):=by
 have hne:=drop_ne hk
 have hc:=runes_cons hne
 have hle:=nx_le hne
 have hps:=nx_pos hne
 rw [List.length_drop] at hle
 have hd:(runes l).drop m=((nx (l.drop k)).1,(l.drop k).take (nx (l.drop k)).2) :: runes ((l.drop k).drop (nx (l.drop k)).2):=by rw [← h.left,hc]
 have hd1:(runes l).drop (m+1)=runes (l.drop (k+(nx (l.drop k)).2)):=by
  have:=congrArg List.tail hd
  rw [List.tail_drop,List.tail_cons,List.drop_drop] at this
  exact this
 refine ⟨by omega,hd1.symm,?_,?_,by have:=h.few;omega⟩
 ·rw [h.cnt,hc,List.drop_drop]
  show m+(if insd (nx (l.drop k)).1=true then spn _+1 else 0)=_
  rw [if_pos hi]
  omega
 ·have e1:=byt_split (runes l) (m+1)
  rw [hd1,byt_runes _ _ (Nat.le_refl _),byt_runes _ _ (Nat.le_refl _),List.length_drop] at e1
  omega
theorem Adv.stop {l:List UInt8}{m k:Nat}(h:Adv l m k) (hs:l.length≤k∨insd (nx (l.drop k)).1=false):spn (runes l)=m:=by
 rw [h.cnt]
 rcases hs with hs | hs
 ·rw [List.drop_eq_nil_of_le hs];rfl
 ·by_cases hk:l.length≤k
  ·rw [List.drop_eq_nil_of_le hk];rfl
  ·rw [runes_cons (drop_ne (by omega))]
   show m+(if insd (nx (l.drop k)).1=true then _ else 0)=m
   rw [if_neg (by rw [hs];decide)]
   omega
/-- How many bytes the runes have that may stand in a name, ahead. -/
def spb (l:List UInt8):Nat:=(byt ((runes l).take (spn (runes l)))).length
theorem bl_from (s:ByteArray) (k:Nat):bl (s.extract k s.size)=(bl s).drop k:=by
 show (s.extract k s.size).data.toList=_
 rw [Lib.extract_data,List.take_of_length_le]
 rw [List.length_drop]
 exact Nat.le_refl _
/-- Is a text a name? -/
def nameS (l:List UInt8):Bool:=letter (nx l).1 && ((spb l:Int) == (l.length:Int)) && decide (spn (runes l)≤24)
theorem head_small (c:UInt8) (r:List UInt8):∃ t,runes (c :: r)=((nx (c :: r)).1,(c :: r).take (nx (c :: r)).2) :: t∧(c.toNat < 128→t=runes r∧(nx (c :: r)).1=(c.toNat:Int))∧(¬ c.toNat < 128→(nx (c :: r)).1 = -1∨128≤(nx (c :: r)).1):=by
 refine ⟨_,runes_cons (by simp),fun h=>?_,fun h=>nx_big h r⟩
 rw [nx_ascii h]
 exact ⟨rfl,rfl⟩
theorem one_big {a:Int}(h:a = -1∨128≤a):one a=0:=by unfold one;rw [if_neg (by omega)]
theorem pair_big1 {a b:Int}(h:a = -1∨128≤a):pair a b=false:=decide_eq_false (by omega)
theorem pair_big2 {a b:Int}(h:b = -1∨128≤b):pair a b=false:=decide_eq_false (by omega)
theorem sgn_head (v:Ru) (t:List Ru) (h:v.1 = -1∨128≤v.1):sgn (v :: t)=0:=by
 match t with
 | []=>exact one_big h
 | u :: t=>
  show (if pair v.1 u.1=true then 2 else one v.1)=0
  rw [pair_big1 h,one_big h];rfl
theorem sgn_one (c:UInt8):sgn (runes [c])=one (c.toNat:Int):=by
 by_cases h:c.toNat < 128
 ·rw [runes_ascii h];rfl
 ·obtain ⟨t,e,_,hb⟩:=head_small c []
  rw [e,sgn_head _ _ (hb h),one_big (.inr (by omega))]
theorem sgn_two (c d:UInt8) (r:List UInt8):sgn (runes (c :: d :: r))=if pair (c.toNat:Int) (d.toNat:Int)=true then 2 else one (c.toNat:Int):=by
 by_cases h:c.toNat < 128
 ·rw [runes_ascii h]
  obtain ⟨t,e,hs,hb⟩:=head_small d r
  rw [e]
  show (if pair (c.toNat:Int) (nx (d :: r)).1=true then 2 else one (c.toNat:Int))=_
  by_cases hd:d.toNat < 128
  ·rw [(hs hd).2]
  ·rw [pair_big2 (hb hd),pair_big2 (b:=(d.toNat:Int)) (.inr (by omega))]
 ·obtain ⟨t,e,_,hb⟩:=head_small c (d :: r)
  rw [e,sgn_head _ _ (hb h),pair_big1 (a:=(c.toNat:Int)) (.inr (by omega)),one_big (.inr (by omega))]
  rfl
theorem and_no {p q:Prop} [Decidable p] [Decidable q] (h:¬ (p∧q)):(decide p && decide q)=false:=by
 rw [Bool.and_eq_false_iff]
 rcases Decidable.not_and_iff_or_not.1 h with h | h
 ·exact .inl (decide_eq_false h)
 ·exact .inr (decide_eq_false h)
theorem two_beq (s:ByteArray) (c d x y:UInt8) (r:List UInt8) (h:bl s=c :: d :: r):((s.extract 0 2).toList == [x,y])=(decide (c=x) && decide (d=y)):=by
 have e:(s.extract 0 2).toList=[c,d]:=by
  rw [ByteArray.toList_eq]
  show (s.extract 0 2).data.toList=_
  rw [Lib.extract_data,show s.data.toList=c :: d :: r from h];rfl
 rw [e]
 rw [Bool.eq_iff_iff]
 simp
theorem one_yes {a:Int}(h:a=123∨a=125∨a=40∨a=41∨a=61∨a=33∨a=60∨a=43∨a=45∨a=42):one a=1:=if_pos h
theorem one_no {a:Int}(h:¬ (a=123∨a=125∨a=40∨a=41∨a=61∨a=33∨a=60∨a=43∨a=45∨a=42)):one a=0:=if_neg h
def dB (c:UInt8):Bool:=decide (48≤c.toNat∧c.toNat≤57)
def valB (n:Int):List UInt8→Int
 | []=>n
 | c :: r=>valB (10*n+((c.toNat:Int) - 48)) r
def numB (l:List UInt8):Bool:=decide (1≤l.length∧l.length≤10) && !(decide ((l.headD 0).toNat=48) && decide (1 < l.length)) && l.all dB && decide (valB 0 l≤1000000000)
theorem numB_len {l:List UInt8}(h:¬ (1≤l.length∧l.length≤10)):numB l=false:=by unfold numB;rw [decide_eq_false h];rfl
theorem numB_nought {c:UInt8}{r:List UInt8}(hc:c.toNat=48) (h:1 < (c :: r).length):numB (c :: r)=false:=by
 have h2:decide (((c :: r).headD 0).toNat=48)=true:=decide_eq_true hc
 unfold numB
 rw [h2,decide_eq_true h]
 simp
theorem numB_not {l:List UInt8}(h:l.all dB=false):numB l=false:=by unfold numB;rw [h];simp
theorem numB_all {l:List UInt8}(h1:1≤l.length∧l.length≤10) (h2:¬ ((l.headD 0).toNat=48∧1 < l.length)) (h:l.all dB=true):numB l=decide (valB 0 l≤1000000000):=by
 have h3:=and_no h2
 unfold numB
 rw [decide_eq_true h1,h3,h]
 simp
theorem get_bl (s:ByteArray) (k:Nat) (h:k < s.size):s[k]=(bl s)[k]'(by rw [bl_length];exact h):=rfl
theorem valB_step {l:List UInt8}{k:Nat}{n v:Int}(h:valB n (l.drop k)=v) (hk:k < l.length):valB (10*n+(((l[k]).toNat:Int) - 48)) (l.drop (k+1))=v:=by
 rw [← h,List.drop_eq_getElem_cons (i:=k) hk]
 rfl
theorem valB_end {l:List UInt8}{k:Nat}{n v:Int}(h:valB n (l.drop k)=v) (hk:l.length≤k):n=v:=by
 rw [← h,List.drop_eq_nil_of_le hk];rfl
theorem all_step {l:List UInt8}{k:Nat}(h:(l.take k).all dB=true) (hk:k < l.length) (hd:dB l[k]=true):(l.take (k+1)).all dB=true:=by
 rw [List.take_succ_eq_append_getElem hk,List.all_append,h]
 simp [hd]
theorem all_no {l:List UInt8}{k:Nat}(hk:k < l.length) (hd:dB l[k]=false):l.all dB=false:=by
 rw [List.all_eq_false]
 exact ⟨l[k],List.getElem_mem _,by rw [hd];decide⟩
theorem dB_yes {c:UInt8}(h:48≤c.toNat∧c.toNat≤57):dB c=true:=decide_eq_true h
theorem dB_no {c:UInt8}(h:¬ (48≤c.toNat∧c.toNat≤57)):dB c=false:=decide_eq_false h
theorem pow_le9 {k:Nat}(h:k≤9):(10:Int) ^ k≤1000000000:=by
 have:(10:Nat) ^ k≤10 ^ 9:=Nat.pow_le_pow_right (by omega) h
 have e:((10 ^ k:Nat):Int)=(10:Int) ^ k:=by simp
 omega
theorem pow_next (k:Nat):(10:Int) ^ (k+1)=10 ^ k*10:=Int.pow_succ 10 k
/-- A rune's first byte tells whether it is of ASCII. -/
theorem runes_form:∀ (n:Nat) (l:List UInt8),l.length≤n→∀ v∈runes l,∃ c r,v.2=c :: r∧(c.toNat < 128→v.1=(c.toNat:Int)∧r=[])∧(¬ c.toNat < 128→v.1 = -1∨128≤v.1)
 | 0,l,h,v,hv=>by
  have:l=[]:=List.eq_nil_of_length_eq_zero (by omega)
  subst this;cases hv
 | n+1,[],h,v,hv=>by cases hv
 | n+1,c :: r,h,v,hv=>by
  by_cases hc:c.toNat < 128
  ·rw [runes_ascii hc] at hv
   rcases List.mem_cons.1 hv with rfl | hv
   ·exact ⟨c,[],rfl,fun _=>⟨rfl,rfl⟩,fun h=>absurd hc h⟩
   ·exact runes_form n r (by simp at h;omega) v hv
  ·have hp:=nx_pos (l:=c :: r) (by simp)
   rw [runes_cons (by simp)] at hv
   rcases List.mem_cons.1 hv with rfl | hv
   ·obtain ⟨m,hm⟩:∃ m,(nx (c :: r)).2=m+1:=⟨(nx (c :: r)).2 - 1,by omega⟩
    exact ⟨c,r.take m,by rw [hm,List.take_succ_cons],fun h=>absurd h hc,fun _=>nx_big hc r⟩
   ·exact runes_form n _ (by rw [List.length_drop];omega) v hv
theorem form (l:List UInt8):∀ v∈runes l,∃ c r,v.2=c :: r∧(c.toNat < 128→v.1=(c.toNat:Int)∧r=[])∧(¬ c.toNat < 128→v.1 = -1∨128≤v.1):=runes_form _ l (Nat.le_refl _)
/-- An ASCII rune has one byte. -/
theorem asc_one {l:List UInt8}{v:Ru}(hv:v∈runes l) (h:0≤v.1∧v.1 < 128):∃ c,v.2=[c]∧v.1=(c.toNat:Int):=by
 obtain ⟨c,r,e,h1,h2⟩:=form l v hv
 by_cases hc:c.toNat < 128
 ·obtain ⟨a,b⟩:=h1 hc
  exact ⟨c,by rw [e,b],a⟩
 ·have:=h2 hc;omega
theorem digits_bytes {l:List UInt8}:∀ (vs:List Ru),(∀ v∈vs,v∈runes l)→vs.all (fun v=>dgt v.1)=true→(byt vs).length=vs.length∧(byt vs).all dB=true∧(∀ n,valB n (byt vs)=val n vs)∧(vs≠[]→((byt vs).headD 0).toNat=((vs.headD (0,[])).1).toNat)
 | [],_,_=>⟨rfl,rfl,fun _=>rfl,fun h=>absurd rfl h⟩
 | v :: t,hm,ha=>by
  simp only [List.all_cons,Bool.and_eq_true] at ha
  have hd:48≤v.1∧v.1≤57:=of_decide_eq_true ha.1
  obtain ⟨c,e1,e2⟩:=asc_one (hm v (by simp)) (by omega)
  obtain ⟨i1,i2,i3,i4⟩:=digits_bytes t (fun x hx=>hm x (by simp [hx])) ha.2
  have eb:byt (v :: t)=c :: byt t:=by rw [byt_cons,e1];rfl
  rw [eb]
  refine ⟨by simp [i1],?_,fun n=>?_,fun _=>?_⟩
  ·simp only [List.all_cons,i2,Bool.and_true]
   exact dB_yes (by omega)
  ·show valB (10*n+((c.toNat:Int) - 48)) (byt t)=val (10*n+(v.1 - 48)) t
   rw [i3,e2]
  ·simp [e2]
theorem not_digits {l:List UInt8}:∀ (vs:List Ru),(∀ v∈vs,v∈runes l)→vs.all (fun v=>dgt v.1)=false→(byt vs).all dB=false
 | [],_,h=>by simp at h
 | v :: t,hm,ha=>by
  rw [byt_cons,List.all_append]
  simp only [List.all_cons,Bool.and_eq_false_iff] at ha
  rw [Bool.and_eq_false_iff]
  rcases ha with ha | ha
  ·left
   have hd:¬ (48≤v.1∧v.1≤57):=of_decide_eq_false ha
   obtain ⟨c,r,e,h1,h2⟩:=form l v (hm v (by simp))
   rw [e,List.all_cons,Bool.and_eq_false_iff]
   left
   refine dB_no (fun h=>hd ?_)
   have:=(h1 (by omega)).1
   omega
  ·right
   exact not_digits t (fun x hx=>hm x (by simp [hx])) ha
theorem numB_numb {l:List UInt8}(vs:List Ru) (hm:∀ v∈vs,v∈runes l):numB (byt vs)=numb vs:=by
 cases ha:vs.all (fun v=>dgt v.1) with
 | false=>
  rw [numB_not (not_digits vs hm ha)]
  unfold numb
  rw [ha];simp
 | true=>
  obtain ⟨i1,i2,i3,i4⟩:=digits_bytes vs hm ha
  unfold numB numb
  rw [i1,i2,i3,ha]
  by_cases hn:vs=[]
  ·subst hn;rfl
  ·have h4:=i4 hn
   have h5:decide (((byt vs).headD 0).toNat=48)=decide ((vs.headD (0,[])).1=48):=by
    match vs,hn with
    | v :: t,_=>
     simp only [List.all_cons,Bool.and_eq_true] at ha
     have hd:48≤v.1∧v.1≤57:=of_decide_eq_true ha.1
     have h6:((byt (v :: t)).headD 0).toNat=v.1.toNat:=h4
     show decide (((byt (v :: t)).headD 0).toNat=48)=decide (v.1=48)
     by_cases hq:v.1=48
     ·rw [decide_eq_true hq];exact decide_eq_true (by omega)
     ·rw [decide_eq_false hq];exact decide_eq_false (by omega)
   rw [h5]
/-- The bytes of the runes ahead that may stand in a name. -/
theorem take_spb (l:List UInt8):l.take (spb l)=byt ((runes l).take (spn (runes l))):=by
 have e:=byt_runes _ l (Nat.le_refl _)
 have e2:byt ((runes l).take (spn (runes l)))++byt ((runes l).drop (spn (runes l)))=l:=by rw [← byt_append,List.take_append_drop,e]
 have e3:∀ (a b:List UInt8),a++b=l→l.take a.length=a:=fun a b h=>by rw [← h];exact List.take_left
 exact e3 _ _ e2
theorem good_spn (l:List UInt8):∀ v∈(runes l).take (spn (runes l)),Good v:=fun v hv=>runes_are_good _ l (Nat.le_refl _) v (List.mem_of_mem_take hv) (insd_ne (spn_all _ v hv))
theorem runes_spn (l:List UInt8):runes (byt ((runes l).take (spn (runes l))))=(runes l).take (spn (runes l)):=by
 have:=runes_goods _ [] (good_spn l)
 rwa [List.append_nil,runes_nil,List.append_nil] at this
theorem name_spb {l:List UInt8}(hl:l≠[]) (h:letter (nx l).1=true):nameS (l.take (spb l))=decide (spn (runes l)≤24):=by
 have hc:=runes_cons hl
 have hp:1≤spn (runes l):=by rw [hc];exact spn_pos (letter_insd h)
 have hr:=runes_spn l
 have hs:=spn_take (runes l)
 have hb:spb (byt ((runes l).take (spn (runes l))))=(byt ((runes l).take (spn (runes l)))).length:=by
  unfold spb
  rw [hr,hs,List.take_take,Nat.min_self]
 have hne:byt ((runes l).take (spn (runes l)))≠[]:=by
  intro e
  rw [e] at hr
  have:=congrArg List.length hr
  rw [List.length_take,runes_nil] at this
  have h7:=spn_le (runes l)
  simp only [List.length_nil] at this
  omega
 have hh:(nx (byt ((runes l).take (spn (runes l))))).1=(nx l).1:=by
  have e1:=runes_cons hne
  rw [hr,hc] at e1
  obtain ⟨m,hm⟩:∃ m,spn (runes l)=m+1:=⟨spn (runes l) - 1,by omega⟩
  rw [hc] at hm
  rw [hm,List.take_succ_cons] at e1
  have:=congrArg (fun x=>x.headD ((0,[]):Ru)) e1
  simp only [List.headD_cons] at this
  rw [hc,hm,List.take_succ_cons]
  exact (congrArg Prod.fst this).symm
 rw [take_spb]
 unfold nameS
 rw [hh,h,hb,hr,hs]
 simp
theorem sgn_bytes (l:List UInt8):(byt ((runes l).take (sgn (runes l)))).length=sgn (runes l):=by
 have key:∀ v∈(runes l).take (sgn (runes l)),0≤v.1∧v.1 < 128:=by
  intro v hv
  match hr:runes l with
  | []=>rw [hr] at hv;simp at hv
  | [u]=>
   rw [hr] at hv
   have hm:=List.mem_of_mem_take hv
   rcases List.mem_cons.1 hm with rfl | hm
   ·have h0:one v.1≠0:=fun e=>by rw [show sgn [v]=one v.1 from rfl,e] at hv;simp at hv
    unfold one at h0
    split at h0
    ·omega
    ·exact absurd rfl h0
   ·simp at hm
  | u :: x :: t=>
   rw [hr] at hv
   have e:sgn (u :: x :: t)=if pair u.1 x.1=true then 2 else one u.1:=rfl
   by_cases hp:pair u.1 x.1=true
   ·rw [e,if_pos hp] at hv
    have:=of_decide_eq_true hp
    simp only [List.take_succ_cons,List.take_zero,List.mem_cons,List.not_mem_nil,or_false] at hv
    rcases hv with rfl | rfl <;> omega
   ·rw [e,if_neg hp] at hv
    unfold one at hv
    split at hv
    ·simp only [List.take_succ_cons,List.take_zero,List.mem_cons,List.not_mem_nil,or_false] at hv
     subst hv;omega
    ·simp at hv
 have h2:∀ (vs:List Ru),(∀ v∈vs,v∈runes l)→(∀ v∈vs,0≤v.1∧v.1 < 128)→(byt vs).length=vs.length:=by
  intro vs
  induction vs with
  | nil=>intro _ _;rfl
  | cons v t ih=>
   intro hm hk
   obtain ⟨c,e1,_⟩:=asc_one (hm v (by simp)) (hk v (by simp))
   rw [byt_cons,e1,List.length_append,ih (fun x hx=>hm x (by simp [hx])) (fun x hx=>hk x (by simp [hx]))]
   simp;omega
 rw [h2 _ (fun v hv=>List.mem_of_mem_take hv) key,List.length_take]
 have:=sgn_le (runes l)
 omega
/-- The place behind runes. -/
def endR:List Ru→Int→Int→Int × Int
 | [],ln,co=>(ln,co)
 | v :: t,ln,co=>if v.1=10 then endR t (ln+1) 1 else endR t ln (co+1)
/-- Two cells of a block stay behind a call. -/
theorem keep2 {w w':World}{X:Nat}{a b:Value}(hb:Below w.heap.size w w') (h0:w.cell? ⟨X,0,none⟩=some a) (h1:w.cell? ⟨X,1,none⟩=some b) (f0:w.frozen? ⟨X,0,none⟩=false) (f1:w.frozen? ⟨X,1,none⟩=false) :
  w'.cell? ⟨X,0,none⟩=some a∧w'.cell? ⟨X,1,none⟩=some b∧w'.frozen? ⟨X,0,none⟩=false∧w'.frozen? ⟨X,1,none⟩=false:=by
 have hX:=World.block_lt_of_cell? w _ h0
 have hX':X < w.heap.size:=hX
 refine ⟨?_,?_,?_,?_⟩
 ·rw [hb.cell (p:=⟨X,0,none⟩) hX'];exact h0
 ·rw [hb.cell (p:=⟨X,1,none⟩) hX'];exact h1
 ·rw [hb.frozen (p:=⟨X,0,none⟩) hX'];exact f0
 ·rw [hb.frozen (p:=⟨X,1,none⟩) hX'];exact f1
theorem new2 (w:World) (a b:Value) (T:TypeId) (n:Nat) (hn:n=w.heap.size):(w.alloc (.cells #[a,b] T)).cell? ⟨n,0,none⟩=some a∧(w.alloc (.cells #[a,b] T)).cell? ⟨n,1,none⟩=some b∧(w.alloc (.cells #[a,b] T)).frozen? ⟨n,0,none⟩=false∧(w.alloc (.cells #[a,b] T)).frozen? ⟨n,1,none⟩=false:=by
 subst hn
 refine ⟨by simp,by simp,by simp,by simp⟩
/-- A block of two cells. -/
def At (w:World) (X:Nat) (a b:Value):Prop:=w.cell? ⟨X,0,none⟩=some a∧w.cell? ⟨X,1,none⟩=some b∧w.frozen? ⟨X,0,none⟩=false∧w.frozen? ⟨X,1,none⟩=false
theorem At.keep {w w':World}{X:Nat}{a b:Value}(h:At w X a b) (hb:Below w.heap.size w w'):At w' X a b:=keep2 hb h.1 h.2.1 h.2.2.1 h.2.2.2
theorem cell_same {w:World}{p:Addr}{u v:Value}(h:w.cell? p=some u):(w.setCell p v).cell? p=some v:=World.cell?_setCell_same' w _ v (by rw [h];rfl)
theorem cell_far {w:World}{X i Y j:Nat}{u v:Value}(hne:¬ (X=Y∧i=j)) (h:w.cell? ⟨Y,j,none⟩=some u):(w.setCell ⟨X,i,none⟩ v).cell? ⟨Y,j,none⟩=some u:=
 (World.cell?_setCell_other w ⟨X,i,none⟩ ⟨Y,j,none⟩ v (by simp;intro h1 h2;exact hne ⟨h1,h2⟩)).trans h
theorem At.set0 {w:World}{X:Nat}{a b:Value}(h:At w X a b) (v:Value):At (w.setCell ⟨X,0,none⟩ v) X v b:=
 ⟨cell_same h.1,cell_far (by omega) h.2.1,(World.frozen?_setCell _ _ _ _).trans h.2.2.1,(World.frozen?_setCell _ _ _ _).trans h.2.2.2⟩
theorem At.set1 {w:World}{X:Nat}{a b:Value}(h:At w X a b) (v:Value):At (w.setCell ⟨X,1,none⟩ v) X a v:=
 ⟨cell_far (by omega) h.1,cell_same h.2.1,(World.frozen?_setCell _ _ _ _).trans h.2.2.1,(World.frozen?_setCell _ _ _ _).trans h.2.2.2⟩
theorem At.far {w:World}{X Y i:Nat}{a b:Value}(h:At w Y a b) (hne:X≠Y) (v:Value):At (w.setCell ⟨X,i,none⟩ v) Y a b:=
 ⟨cell_far (by omega) h.1,cell_far (by omega) h.2.1,(World.frozen?_setCell _ _ _ _).trans h.2.2.1,(World.frozen?_setCell _ _ _ _).trans h.2.2.2⟩
theorem At.new (w:World) (a b:Value) (T:TypeId) (n:Nat) (hn:n=w.heap.size):At (w.alloc (.cells #[a,b] T)) n a b:=new2 w a b T n hn
/-- A word's text. -/
def txt (seg:List Ru):ByteArray:=⟨(byt seg).toArray⟩
def celW (x:Wd):List Value:=[.int .i64 (x.1:Int),.string (txt x.2.1),.int .i64 x.2.2.1,.int .i64 x.2.2.2]
def celsW (l:List Wd):List Value:=l.flatMap celW
theorem celsW_snoc (l:List Wd) (x:Wd):celsW (l++[x])=celsW l++celW x:=by simp [celsW]
/-- The slice value v is the call's own, from block base on, and holds the words l. -/
def OwnW (w:World) (base e:Nat) (v:Value) (l:List Wd):Prop:=w.ownsRow base e 4 v l.length (celsW l)
theorem ownW_nil (w:World) (base e:Nat):OwnW w base e (.slice none 0 0) []:=World.ownsRow_nil w base e 4
theorem ownW_snoc {w:World}{base e:Nat}{v:Value}{l:List Wd}{x:Wd}(h:w.ownsRow base e 4 v (l.length+1) (celsW l++celW x)):OwnW w base e v (l++[x]):=by
 unfold OwnW
 rw [List.length_append,celsW_snoc]
 exact h
theorem OwnW.below {w w':World}{base e:Nat}{v:Value}{l:List Wd}{B:Nat}(h:OwnW w base e v l) (hb:Below B w w') (hB:w.heap.size≤B):OwnW w' base e v l:=by
 refine ⟨h.1,?_⟩
 rcases h.2 with hn | ⟨g,cap,cur,rfl,hbg,hg,rest⟩
 ·exact .inl hn
 ·refine .inr ⟨g,cap,cur,rfl,hbg,?_,rest⟩
  rw [hb.block g (by have:=(Array.getElem?_eq_some_iff.1 hg).1;omega)]
  exact hg
theorem OwnW.set {w:World}{base e:Nat}{v:Value}{l:List Wd}(h:OwnW w base e v l) {a:Addr}(ha:a.block < base) (u:Value):OwnW (w.setCell a u) base e v l:=ownsRow_setCell_below h ha u
theorem OwnW.base {w:World}{base base' e:Nat}{v:Value}{l:List Wd}(h:OwnW w base e v l) (hb:base'≤base):OwnW w base' e v l:=
 ⟨h.1,h.2.elim Or.inl (fun ⟨g,cap,cur,hv,hg,r⟩=>Or.inr ⟨g,cap,cur,hv,Nat.le_trans hb hg,r⟩)⟩
/-- With the words acc ahead. -/
def comb (acc:List Wd) (r:Rs):Rs:=if r.2.2=0 then (acc++r.1,r.2) else r
theorem comb_nil (r:Rs):comb [] r=r:=by unfold comb;split <;> simp
theorem comb_pre (acc:List Wd) (w:Wd) (r:Rs):comb acc (pre w r)=comb (acc++[w]) r:=by
 unfold comb pre
 by_cases h:r.2.2=0
 ·simp [h]
 ·simp [h]
theorem comb_end (acc:List Wd) (ln co:Int) (n:Nat):comb acc (wrds [] ln co n)=(acc,(0,0),0):=by rw [wrds_nil];simp [comb]
theorem comb_err (acc:List Wd) (p:Int × Int) (e:Int) (h:e≠0):comb acc ([],p,e)=([],p,e):=by unfold comb;rw [if_neg h]
theorem At.keepB {w w':World}{X B:Nat}{a b:Value}(h:At w X a b) (hb:Below B w w') (hX:X < B):At w' X a b:=by
 refine ⟨?_,?_,?_,?_⟩
 ·rw [hb.cell (p:=⟨X,0,none⟩) hX];exact h.1
 ·rw [hb.cell (p:=⟨X,1,none⟩) hX];exact h.2.1
 ·rw [hb.frozen (p:=⟨X,0,none⟩) hX];exact h.2.2.1
 ·rw [hb.frozen (p:=⟨X,1,none⟩) hX];exact h.2.2.2
def ndC:(d:Nat)→T d→Nat:=fold (fun _ _ _ l=>min (l.sum+1) 41)
theorem ndC_mk {d:Nat}(k n:Int) (s:ByteArray) (ps:List (T d)):ndC (d+1) (mkT k n s ps)=min ((ps.map (ndC d)).sum+1) 41:=rfl
def dpC:(d:Nat)→T d→Nat:=fold (fun _ _ _ l=>l.foldl max 0+1)
theorem dpC_mk {d:Nat}(k n:Int) (s:ByteArray) (ps:List (T d)):dpC (d+1) (mkT k n s ps)=(ps.map (dpC d)).foldl max 0+1:=rfl
def ops9:List (List UInt8):=[[43],[45],[42],[60],[60,61],[61,61],[33,61],[38,38],[124,124]]
def opr (s:ByteArray):Bool:=ops9.any (fun x=>bl s == x)
def sdC:(d:Nat)→T d→Bool:=fold (fun k n s l=>if k=1 then decide (0≤n) && decide (n≤1000000000) else if k=2 then nameS (bl s) else if k=3∨k=4 then l.all id else if k=5 then opr s && l.all id else false)
theorem sdC_mk {d:Nat}(k n:Int) (s:ByteArray) (ps:List (T d)):sdC (d+1) (mkT k n s ps) =
  if k=1 then decide (0≤n) && decide (n≤1000000000) else if k=2 then nameS (bl s) else if k=3∨k=4 then ps.all (sdC d) else if k=5 then opr s && ps.all (sdC d) else false:=by
 have e:(ps.map (sdC d)).all id=ps.all (sdC d):=by rw [List.all_map];rfl
 rw [← e]
 rfl
def fmC (d:Nat) (t:T d):Bool:=decide (ndC d t≤40) && decide (dpC d t≤12) && sdC d t
theorem all_take_succ {α:Type}(f:α→Bool) (l:List α) (j:Nat) (h:j < l.length) (h1:(l.take j).all f=true) (h2:f l[j]=true):(l.take (j+1)).all f=true:=by
 rw [List.take_succ_eq_append_getElem h,List.all_append,h1];simp [h2]
theorem all_not {α:Type}(f:α→Bool) (l:List α) (j:Nat) (h:j < l.length) (h2:f l[j]=false):l.all f=false:=by
 rw [List.all_eq_false];exact ⟨l[j],List.getElem_mem h,by rw [h2];decide⟩
/-- An expression, with its depth. -/
abbrev Sx:=(d:Nat) × T d
/-- The same tree, k deeper. -/
def addl (d:Nat) (t:T d):(k:Nat)→T (d+k)
 | 0=>t
 | k+1=>lift (d+k) (addl d t k)
theorem fold_addl {α:Type}(f:Int→Int→ByteArray→List α→α) (d:Nat) (t:T d):∀ k,fold f (d+k) (addl d t k)=fold f d t
 | 0=>rfl
 | k+1=>(fold_lift f (d+k) (addl d t k)).trans (fold_addl f d t k)
theorem cl_addl (d:Nat) (t:T d) (h:Cl d t):∀ k,Cl (d+k) (addl d t k)
 | 0=>h
 | k+1=>cl_lift _ _ (cl_addl d t h k)
def turn {a b:Nat}(h:a=b) (t:T a):T b:=h ▸ t
theorem fold_turn {α:Type}(f:Int→Int→ByteArray→List α→α) {a b:Nat}(h:a=b) (t:T a):fold f b (turn h t)=fold f a t:=by subst h;rfl
theorem cl_turn {a b:Nat}(h:a=b) (t:T a) (hc:Cl a t):Cl b (turn h t):=by subst h;exact hc
/-- A function of expressions, by what it makes of a node and of its parts. -/
def foldS {α:Type}(f:Int→Int→ByteArray→List α→α) (x:Sx):α:=fold f x.1 x.2
def ClX (x:Sx):Prop:=Cl x.1 x.2
def mk0 (k n:Int) (s:ByteArray):Sx:=⟨1,mkT k n s []⟩
def mk1 (k:Int) (x:Sx):Sx:=⟨x.1+1,mkT k 0 ⟨#[]⟩ [x.2]⟩
def mk2 (s:ByteArray) (x y:Sx):Sx:=⟨x.1+y.1+1,mkT 5 0 s [addl x.1 x.2 y.1,turn (Nat.add_comm y.1 x.1) (addl y.1 y.2 x.1)]⟩
theorem foldS_mk2 {α:Type}(f:Int→Int→ByteArray→List α→α) (s:ByteArray) (x y:Sx):foldS f (mk2 s x y)=f 5 0 s [foldS f x,foldS f y]:=by
 show f 5 0 s [fold f _ _,fold f _ _]=_
 rw [fold_addl,fold_turn,fold_addl]
 rfl
theorem cl_mk1 {k:Int}{x:Sx}(hk:k=3∨k=4) (h:ClX x):ClX (mk1 k x):=.inr (.inr (.inl ⟨hk,rfl,rfl,_,rfl,h⟩))
theorem cl_mk2 {s:ByteArray}{x y:Sx}(h:ClX x) (h':ClX y):ClX (mk2 s x y):=.inr (.inr (.inr (.inl ⟨rfl,rfl,_,_,rfl,cl_addl _ _ h _,cl_turn _ _ (cl_addl _ _ h' _)⟩)))
/-- A word: its kind, and its bytes. -/
abbrev Tk:=Nat × List UInt8
/-- How strongly an operator binds; 0: it is none. -/
def lv (s:List UInt8):Nat:=if s=[124,124] then 1 else if s=[38,38] then 2 else if s=[60]∨s=[60,61]∨s=[61,61]∨s=[33,61] then 3 else if s=[43]∨s=[45] then 4 else if s=[42] then 5 else 0
theorem lv_le (s:List UInt8):lv s≤5:=by
 unfold lv
 repeat' split
 all_goals omega
def noX:Sx:=mk0 0 0 ⟨#[]⟩
/-- What reading tells: the expression, the place, and the word with which it can't go on (-1: none). -/
abbrev Rd3:=Sx × Nat × Int
def failR (at':Nat) (bad:Int):Rd3:=(noX,at',if bad < 0 then (at':Int) else bad)
section
variable (nb:List UInt8→Int) (rsv:List UInt8→Bool) (l:List Tk)
def isT (s:List UInt8) (at':Nat) (bad:Int):Bool:=decide (bad < 0) && (match l[at']? with | some w=>decide (w.2=s) | none=>false)
/-- Operators of level k, one behind the other; next reads what lies between them. -/
def lop (next:Nat→Int→Rd3) (k:Nat):Nat→Rd3→Rd3
 | 0,r=>r
 | g+1,r=>match l[r.2.1]? with
  | none=>r
  | some w=>if r.2.2 < 0∧lv w.2=k then
    (if k=3 then (mk2 ⟨w.2.toArray⟩ r.1 (next (r.2.1+1) r.2.2).1,(next (r.2.1+1) r.2.2).2) else lop next k g (mk2 ⟨w.2.toArray⟩ r.1 (next (r.2.1+1) r.2.2).1,(next (r.2.1+1) r.2.2).2))
   else r
/-- An expression whose operators are of level k, or stronger; 6: none at all. -/
def psr:Nat→Nat→Nat→Int→Rd3
 | 0,_,at',bad=>failR at' bad
 | f+1,k,at',bad=>
  if k=6 then
   (if 0≤bad then failR at' bad else match l[at']? with
   | none=>failR at' bad
   | some w=>
    if w.2=[33]∨w.2=[45] then (mk1 (if w.2=[45] then 4 else 3) (psr f 6 (at'+1) bad).1,(psr f 6 (at'+1) bad).2)
    else if w.2=[40] then (if isT l [41] (psr f 1 (at'+1) bad).2.1 (psr f 1 (at'+1) bad).2.2=true then ((psr f 1 (at'+1) bad).1,(psr f 1 (at'+1) bad).2.1+1,(psr f 1 (at'+1) bad).2.2) else failR (psr f 1 (at'+1) bad).2.1 (psr f 1 (at'+1) bad).2.2)
    else if w.1=2 then (mk0 1 (nb w.2) ⟨#[]⟩,at'+1,bad)
    else if w.1=1∧rsv w.2=false then (mk0 2 0 ⟨w.2.toArray⟩,at'+1,bad)
    else failR at' bad)
  else lop l (psr f (k+1)) k l.length (psr f (k+1) at' bad)
end
/-- No word of a Ref is reserved; Lits are told by their digits. -/
def okF (nb:List UInt8→Int) (rsv:List UInt8→Bool) (dc:Int→List UInt8) (k n:Int) (s:ByteArray) (p:List Prop):Prop:=
 (k=1→nb (dc n)=n∧lv (dc n)=0∧dc n≠[33]∧dc n≠[45]∧dc n≠[40])∧(k=2→rsv s.data.toList=false∧lv s.data.toList=0∧s.data.toList≠[33]∧s.data.toList≠[45]∧s.data.toList≠[40])∧(k=5→1≤lv s.data.toList)∧(1≤k∧k≤5)∧∀ q∈p,q
def okT (nb:List UInt8→Int) (rsv:List UInt8→Bool) (dc:Int→List UInt8):(d:Nat)→T d→Prop:=fold (okF nb rsv dc)
section
variable {nb:List UInt8→Int}{rsv:List UInt8→Bool}{l:List Tk}
variable {dc:Int→List UInt8}
end
/-- A sign that waits: its bytes, and its level (0: a bracket, 6: ahead). -/
abbrev Sg2:=List UInt8 × Nat
/-- What came by now: the operands, the signs that wait (the last ones first), the brackets that are open, whether an operand has ended. -/
structure Yd where
 V:List Sx
 W:List Sg2
 o:Nat
 b:Bool
def topL (W:List Sg2):Nat:=match W with | []=>0 | s :: _=>s.2
/-- What a sign makes of the last operands. -/
def jn1 (V:List Sx) (s:Sg2):List Sx:=
 if s.2=6 then (match V with | x :: r=>mk1 (if s.1=[33] then 3 else 4) x :: r | r=>r)
 else (match V with | x :: y :: r=>mk2 ⟨s.1.toArray⟩ y x :: r | r=>r)
def jn (k:Nat):List Sx→List Sg2→List Sx × List Sg2
 | V,[]=>(V,[])
 | V,s :: W=>if k≤s.2 then jn k (jn1 V s) W else (V,s :: W)
theorem jn_skip {k:Nat}{V:List Sx}{W:List Sg2}(h:topL W < k):jn k V W=(V,W):=by
 cases W with
 | nil=>rfl
 | cons s W=>unfold jn;rw [if_neg (by simpa [topL] using h)]
theorem jn_jn {k k':Nat}(h:k≤k'):∀ (W:List Sg2) (V:List Sx),jn k (jn k' V W).1 (jn k' V W).2=jn k V W
 | [],V=>rfl
 | s :: W,V=>by
  by_cases hs:k'≤s.2
  ·rw [jn,if_pos hs,jn_jn h W,jn,if_pos (Nat.le_trans h hs)]
  ·rw [jn,if_neg hs]
section
variable (leaf:Tk→Option Sx)
def stA (y:Yd) (w:Tk):Yd × Bool:=
 if w.1≠3 then (match leaf w with | some x=>(⟨x :: y.V,y.W,y.o,true⟩,true) | none=>(y,false))
 else if w.2=[40] then (⟨y.V,(w.2,0) :: y.W,y.o+1,y.b⟩,true)
 else if w.2=[33]∨w.2=[45] then (⟨y.V,(w.2,6) :: y.W,y.o,y.b⟩,true)
 else (y,false)
def stB (y:Yd) (w:Tk):Yd × Bool:=
 if w.1≠3 then (y,false)
 else if w.2=[41] then (if y.o=0 then (y,false) else (⟨(jn 1 y.V y.W).1,(jn 1 y.V y.W).2.tail,y.o - 1,y.b⟩,true))
 else if lv w.2=0 then (y,false)
 else if lv w.2=3∧topL (jn (lv w.2+1) y.V y.W).2=3 then (⟨(jn (lv w.2+1) y.V y.W).1,(jn (lv w.2+1) y.V y.W).2,y.o,y.b⟩,false)
 else (⟨(jn (lv w.2) y.V y.W).1,(w.2,lv w.2) :: (jn (lv w.2) y.V y.W).2,y.o,false⟩,true)
def stp (y:Yd) (w:Tk):Yd × Bool:=if y.b=true then stB y w else stA leaf y w
/-- What is told where it stops. -/
def stopY (y:Yd) (n:Nat):Option Sx × Nat:=if y.b=true∧y.o=0 then ((jn 1 y.V y.W).1.head?,n) else (none,n)
def runY:Yd→List Tk→Nat→Option Sx × Nat
 | y,[],n=>stopY y n
 | y,w :: r,n=>if (stp leaf y w).2=true then runY (stp leaf y w).1 r (n+1) else stopY (stp leaf y w).1 n
/-- From a place on. -/
def rnY (l:List Tk) (y:Yd) (n:Nat):Option Sx × Nat:=runY leaf y (l.drop n) n
end
section
variable {leaf:Tk→Option Sx}{l:List Tk}
theorem rnY_none {y:Yd}{n:Nat}(h:l[n]?=none):rnY leaf l y n=stopY y n:=by
 unfold rnY
 rw [List.drop_eq_nil_iff.2 (List.getElem?_eq_none_iff.1 h)];rfl
theorem rnY_some {y:Yd}{n:Nat}{w:Tk}(h:l[n]?=some w):rnY leaf l y n=if (stp leaf y w).2=true then rnY leaf l (stp leaf y w).1 (n+1) else stopY (stp leaf y w).1 n:=by
 obtain ⟨hl,hw⟩:=List.getElem?_eq_some_iff.1 h
 unfold rnY
 rw [List.drop_eq_getElem_cons hl,hw];rfl
theorem rnB {V:List Sx}{W:List Sg2}{o n:Nat}{w:Tk}{y':Yd}(h:l[n]?=some w) (hs:stB ⟨V,W,o,true⟩ w=(y',true)):rnY leaf l ⟨V,W,o,true⟩ n=rnY leaf l y' (n+1):=by
 rw [rnY_some h,show stp leaf ⟨V,W,o,true⟩ w=(y',true) from hs,if_pos rfl]
theorem rnB_no {V:List Sx}{W:List Sg2}{o n:Nat}{w:Tk}{y':Yd}(h:l[n]?=some w) (hs:stB ⟨V,W,o,true⟩ w=(y',false)):rnY leaf l ⟨V,W,o,true⟩ n=stopY y' n:=by
 rw [rnY_some h,show stp leaf ⟨V,W,o,true⟩ w=(y',false) from hs,if_neg Bool.false_ne_true]
theorem stB_kind {y:Yd}{w:Tk}(h:w.1≠3):stB y w=(y,false):=by unfold stB;rw [if_pos h]
theorem stB_shut0 {y:Yd}{w:Tk}(h:¬ w.1≠3) (h4:w.2=[41]) (ho:y.o=0):stB y w=(y,false):=by unfold stB;rw [if_neg h,if_pos h4,if_pos ho]
theorem stB_shut {y:Yd}{w:Tk}(h:¬ w.1≠3) (h4:w.2=[41]) (ho:¬ y.o=0):stB y w=(⟨(jn 1 y.V y.W).1,(jn 1 y.V y.W).2.tail,y.o - 1,y.b⟩,true):=by unfold stB;rw [if_neg h,if_pos h4,if_neg ho]
theorem stB_none {y:Yd}{w:Tk}(h:¬ w.1≠3) (h4:¬ w.2=[41]) (hl:lv w.2=0):stB y w=(y,false):=by unfold stB;rw [if_neg h,if_neg h4,if_pos hl]
theorem not41 {s:List UInt8}(h:lv s≠0):¬ s=[41]:=fun e=>by
 rw [e] at h
 exact h (by decide)
theorem stB_two {y:Yd}{w:Tk}(h:¬ w.1≠3) (hl:lv w.2=3) (ht:topL (jn 4 y.V y.W).2=3):stB y w=(⟨(jn 4 y.V y.W).1,(jn 4 y.V y.W).2,y.o,y.b⟩,false):=by
 unfold stB
 rw [if_neg h,if_neg (not41 (by omega)),if_neg (by omega),hl,if_pos ⟨rfl,ht⟩]
theorem stB_op {y:Yd}{w:Tk}{k:Nat}(h:¬ w.1≠3) (hl:lv w.2=k) (hk:1≤k) (ht:¬ (k=3∧topL (jn (k+1) y.V y.W).2=3)):stB y w=(⟨(jn k y.V y.W).1,(w.2,k) :: (jn k y.V y.W).2,y.o,false⟩,true):=by
 unfold stB
 rw [if_neg h,if_neg (not41 (by omega)),if_neg (by omega),hl,if_neg ht]
theorem stop_jn {k:Nat}(hk:1≤k) (V:List Sx) (W:List Sg2) (o:Nat) (b:Bool) (n:Nat):stopY ⟨(jn k V W).1,(jn k V W).2,o,b⟩ n=stopY ⟨V,W,o,b⟩ n:=by
 unfold stopY
 simp only [jn_jn hk]
/-- What follows binds less than k. -/
def NxLt (l:List Tk) (k n:Nat):Prop:=∀ w,l[n]?=some w→lv w.2 < k
/-- Joined or not is nothing to what follows. -/
theorem run_jn {k:Nat}(hk:1≤k) {V:List Sx}{W:List Sg2}{o n:Nat}(hn:NxLt l k n):rnY leaf l ⟨V,W,o,true⟩ n=rnY leaf l ⟨(jn k V W).1,(jn k V W).2,o,true⟩ n:=by
 cases hw:l[n]? with
 | none=>rw [rnY_none hw,rnY_none hw,stop_jn hk]
 | some w=>
  have hlt:=hn w hw
  by_cases h3:w.1≠3
  ·rw [rnB_no hw (stB_kind h3),rnB_no hw (stB_kind h3),stop_jn hk]
  by_cases h4:w.2=[41]
  ·by_cases ho:o=0
   ·rw [rnB_no hw (stB_shut0 h3 h4 ho),rnB_no hw (stB_shut0 h3 h4 ho),stop_jn hk]
   ·rw [rnB hw (stB_shut h3 h4 ho),rnB hw (stB_shut h3 h4 ho)]
    simp only [jn_jn hk]
  by_cases h0:lv w.2=0
  ·rw [rnB_no hw (stB_none h3 h4 h0),rnB_no hw (stB_none h3 h4 h0),stop_jn hk]
  have hjj:=jn_jn (k:=lv w.2+1) (k':=k) (by omega) W V
  by_cases ht:lv w.2=3∧topL (jn (lv w.2+1) V W).2=3
  ·obtain ⟨ht1,ht2⟩:=ht
   rw [ht1] at ht2 hjj
   rw [rnB_no hw (stB_two h3 ht1 ht2),rnB_no hw (stB_two h3 ht1 (by rw [hjj];exact ht2))]
   simp only [hjj]
  ·rw [rnB hw (stB_op h3 rfl (by omega) ht),rnB hw (stB_op h3 rfl (by omega) (by rw [hjj];exact ht))]
   simp only [jn_jn (k:=lv w.2) (k':=k) (by omega)]
/-- A sign that waits at level k, and its right operand; an operator of level k follows. -/
theorem run_chain {k:Nat}(hk:1≤k) (h3:k≠3) (hk6:k≤5) {x z:Sx}{V:List Sx}{W:List Sg2}{t:List UInt8}{o n:Nat}(hW:topL W < k) (hn:NxLt l (k+1) n) :
  rnY leaf l ⟨z :: x :: V,(t,k) :: W,o,true⟩ n=rnY leaf l ⟨mk2 ⟨t.toArray⟩ x z :: V,W,o,true⟩ n:=by
 have hj:jn k (z :: x :: V) ((t,k) :: W)=(mk2 ⟨t.toArray⟩ x z :: V,W):=by
  rw [jn,if_pos (Nat.le_refl _)]
  show jn k (jn1 (z :: x :: V) (t,k)) W=_
  unfold jn1
  rw [if_neg (by show ¬ k=6;omega)]
  exact jn_skip hW
 by_cases hlt:NxLt l k n
 ·rw [run_jn hk hlt,hj]
 ·obtain ⟨w,hw⟩:=Classical.not_forall.1 hlt
  obtain ⟨hw1,hw2⟩:=Classical.not_imp.1 hw
  have hle:=hn w hw1
  have hk':lv w.2=k:=by omega
  by_cases h3':w.1≠3
  ·rw [rnB_no hw1 (stB_kind h3'),rnB_no hw1 (stB_kind h3')]
   have:=stop_jn (k:=k) hk (z :: x :: V) ((t,k) :: W) o true n
   rw [hj] at this
   exact this.symm
  rw [rnB hw1 (stB_op h3' hk' hk (fun h=>h3 h.1)),rnB hw1 (stB_op h3' hk' hk (fun h=>h3 h.1))]
  simp only [hj,jn_skip hW]
end
section
variable {nb:List UInt8→Int}{rsv:List UInt8→Bool}{l:List Tk}
/-- The expression that a word alone is. -/
def leafY (nb:List UInt8→Int) (rsv:List UInt8→Bool) (w:Tk):Option Sx:=
 if w.1=2 then some (mk0 1 (nb w.2) ⟨#[]⟩) else if w.1=1∧rsv w.2=false then some (mk0 2 0 ⟨w.2.toArray⟩) else none
/-- A sign's bytes are a sign's. -/
def GdW1 (w:Tk):Prop:=(w.1=1∨w.1=2∨w.1=3)∧(w.1≠3→lv w.2=0∧w.2≠[33]∧w.2≠[45]∧w.2≠[40]∧w.2≠[41])
/-- What reading at level k, with these stacks, comes to. -/
def ResY (leaf:Tk→Option Sx) (l:List Tk) (k:Nat) (V:List Sx) (W:List Sg2) (o n:Nat) (out:Option Sx × Nat) (r:Rd3):Prop:=
 (∃ m:Nat,r.2.2=(m:Int)∧out=(none,m))∨
 (r.2.2 = -1∧n≤r.2.1∧NxLt l k r.2.1∧out=rnY leaf l ⟨r.1 :: V,W,o,true⟩ r.2.1)∨
 (r.2.2 = -1∧n≤r.2.1∧k≤3∧(∃ w,l[r.2.1]?=some w∧lv w.2=3)∧out=stopY ⟨r.1 :: V,W,o,true⟩ r.2.1)
theorem lop_bad {next:Nat→Int→Rd3}{k:Nat}{x:Sx}{n m:Nat}:∀ G,lop l next k G (x,n,(m:Int))=(x,n,(m:Int))
 | 0=>rfl
 | G+1=>by
  unfold lop
  cases l[n]? with
  | none=>rfl
  | some w=>simp only;rw [if_neg (fun h=>by have:=h.1;omega)]
theorem lop_neq {next:Nat→Int→Rd3}{k:Nat}{x:Sx}{n:Nat}{b:Int}(h:∀ w,l[n]?=some w→lv w.2≠k):∀ G,lop l next k G (x,n,b)=(x,n,b)
 | 0=>rfl
 | G+1=>by
  unfold lop
  cases hw:l[n]? with
  | none=>rfl
  | some w=>simp only;rw [if_neg (fun q=>h w hw q.2)]
def LevC (nb:List UInt8→Int) (rsv:List UInt8→Bool) (l:List Tk) (f:Nat):Prop:=∀ (k n:Nat) (V:List Sx) (W:List Sg2) (o:Nat),1≤k→k≤6→(k=6∨topL W < k)→7*(l.length - n)+(6 - k) < f→
 ResY (leafY nb rsv) l k V W o n (rnY (leafY nb rsv) l ⟨V,W,o,false⟩ n) (psr nb rsv l f k n (-1))
theorem loop_any (hl:∀ w∈l,GdW1 w) {f:Nat}(IH:LevC nb rsv l f) {k:Nat}(hk:1≤k) (hk5:k≤5) {V:List Sx}{W:List Sg2}{o n0:Nat}(hW:topL W < k) (out:Option Sx × Nat):∀ (G n:Nat) (x:Sx),l.length - n≤G→n0≤n→7*(l.length - n)+(6 - (k+1)) < f→NxLt l (k+1) n→out=rnY (leafY nb rsv) l ⟨x :: V,W,o,true⟩ n→
  ResY (leafY nb rsv) l k V W o n0 out (lop l (psr nb rsv l f (k+1)) k G (x,n,-1))
 | 0,n,x,hG,h0,hf,hn,ho=>by
  refine .inr (.inl ⟨rfl,h0,fun w hw=>?_,ho⟩)
  have:=(List.getElem?_eq_some_iff.1 hw).1
  simp only [lop] at this
  omega
 | G+1,n,x,hG,h0,hf,hn,ho=>by
  by_cases hq:NxLt l k n
  ·rw [lop_neq (fun w hw=>Nat.ne_of_lt (hq w hw))]
   exact .inr (.inl ⟨rfl,h0,hq,ho⟩)
  ·obtain ⟨w,hw⟩:=Classical.not_forall.1 hq
   obtain ⟨hw1,hw2⟩:=Classical.not_imp.1 hw
   have hle:=hn w hw1
   have hkw:lv w.2=k:=by omega
   have hlt:=(List.getElem?_eq_some_iff.1 hw1).1
   rw [lop]
   simp only [hw1]
   rw [if_pos ⟨by decide,hkw⟩]
   have hstep:out=rnY (leafY nb rsv) l ⟨x :: V,(w.2,k) :: W,o,false⟩ (n+1):=by
    have hg:=hl w (List.mem_of_getElem? hw1)
    have h3w:¬ w.1≠3:=fun h=>by have:=(hg.2 h).1;omega
    rw [ho,rnB hw1 (stB_op h3w hkw hk (fun h=>by
     have h2:=h.2
     rw [jn_skip (by show topL W < k+1;omega)] at h2
     simp only at h2
     omega))]
    simp only [jn_skip (V:=x :: V) hW]
   have ih:=IH (k+1) (n+1) (x :: V) ((w.2,k) :: W) o (by omega) (by omega) (.inr (by show k < k+1;omega)) (by omega)
   rw [← hstep] at ih
   obtain ⟨r,hr⟩:∃ r,psr nb rsv l f (k+1) (n+1) (-1)=r:=⟨_,rfl⟩
   obtain ⟨z,n',b'⟩:=r
   rw [hr] at ih ⊢
   rcases ih with ⟨m,e1,e2⟩ | ⟨e1,e2,e3,e4⟩ | ⟨e1,e2,e3,e4,e5⟩
   ·simp only at e1 e2
    subst e1
    simp only [lop_bad,ite_self]
    exact .inl ⟨m,rfl,e2⟩
   ·simp only at e1 e2 e3 e4
    subst e1
    by_cases h3:k=3
    ·subst h3
     simp only [if_true]
     have hj:jn 3 (z :: x :: V) ((w.2,3) :: W)=(mk2 ⟨w.2.toArray⟩ x z :: V,W):=by
      rw [jn,if_pos (Nat.le_refl _)]
      show jn 3 (jn1 (z :: x :: V) (w.2,3)) W=_
      unfold jn1
      rw [if_neg (by show ¬ 3=6;decide)]
      exact jn_skip hW
     by_cases hq2:NxLt l 3 n'
     ·refine .inr (.inl ⟨rfl,by show n0≤n';omega,hq2,?_⟩)
      rw [e4,run_jn (by omega) hq2,hj]
     ·obtain ⟨w',hw'⟩:=Classical.not_forall.1 hq2
      obtain ⟨hv1,hv2⟩:=Classical.not_imp.1 hw'
      have hle':=e3 w' hv1
      have hkw':lv w'.2=3:=by omega
      refine .inr (.inr ⟨rfl,by show n0≤n';omega,by omega,⟨w',hv1,hkw'⟩,?_⟩)
      have hs:jn 4 (z :: x :: V) ((w.2,3) :: W)=(z :: x :: V,(w.2,3) :: W):=jn_skip (by show 3 < 4;omega)
      have:=stop_jn (k:=3) (by omega) (z :: x :: V) ((w.2,3) :: W) o true n'
      rw [hj] at this
      simp only at this ⊢
      rw [this,e4]
      by_cases h3':w'.1≠3
      ·rw [rnB_no hv1 (stB_kind h3')]
      rw [rnB_no hv1 (stB_two h3' hkw' (by show topL (jn 4 (z :: x :: V) ((w.2,3) :: W)).2=3;rw [hs];rfl))]
      simp only [hs]
    ·rw [if_neg h3]
     exact loop_any hl IH hk hk5 hW out G n' (mk2 ⟨w.2.toArray⟩ x z) (by omega) (by omega) (by omega) e3 (by rw [e4];exact run_chain hk h3 hk5 hW e3)
   ·simp only at e1 e2 e3 e4 e5
    subst e1
    obtain ⟨w',hv1,hv2⟩:=e4
    have hj:jn k (z :: x :: V) ((w.2,k) :: W)=(mk2 ⟨w.2.toArray⟩ x z :: V,W):=by
     rw [jn,if_pos (Nat.le_refl _)]
     show jn k (jn1 (z :: x :: V) (w.2,k)) W=_
     unfold jn1
     rw [if_neg (by show ¬ k=6;omega)]
     exact jn_skip hW
    rw [if_neg (by omega),lop_neq (fun u hu=>by rw [hv1] at hu;injection hu with hu;subst hu;omega)]
    refine .inr (.inr ⟨rfl,by show n0≤n';omega,by omega,⟨w',hv1,hv2⟩,?_⟩)
    rw [e5,← stop_jn hk,hj]
theorem psr6_end {f n:Nat}(h:l[n]?=none):psr nb rsv l (f+1) 6 n (-1)=(noX,n,(n:Int)):=by
 rw [psr,if_pos rfl,if_neg (by decide),h];rfl
theorem psr6_un {f n:Nat}{w:Tk}(h:l[n]?=some w) (hu:w.2=[33]∨w.2=[45]):psr nb rsv l (f+1) 6 n (-1)=(mk1 (if w.2=[45] then 4 else 3) (psr nb rsv l f 6 (n+1) (-1)).1,(psr nb rsv l f 6 (n+1) (-1)).2):=by
 rw [psr,if_pos rfl,if_neg (by decide),h]
 simp only
 rw [if_pos hu]
theorem psr6_par {f n:Nat}{w:Tk}(h:l[n]?=some w) (hu:w.2=[40]):psr nb rsv l (f+1) 6 n (-1)=if isT l [41] (psr nb rsv l f 1 (n+1) (-1)).2.1 (psr nb rsv l f 1 (n+1) (-1)).2.2=true then ((psr nb rsv l f 1 (n+1) (-1)).1,(psr nb rsv l f 1 (n+1) (-1)).2.1+1,(psr nb rsv l f 1 (n+1) (-1)).2.2) else failR (psr nb rsv l f 1 (n+1) (-1)).2.1 (psr nb rsv l f 1 (n+1) (-1)).2.2:=by
 rw [psr,if_pos rfl,if_neg (by decide),h]
 simp only
 rw [if_neg (by rw [hu];decide),if_pos hu]
theorem psr6_leaf {f n:Nat}{w:Tk}(h:l[n]?=some w) (h1:¬ (w.2=[33]∨w.2=[45])) (h2:¬ w.2=[40]):psr nb rsv l (f+1) 6 n (-1)=match leafY nb rsv w with | some x=>(x,n+1,-1) | none=>(noX,n,(n:Int)):=by
 rw [psr,if_pos rfl,if_neg (by decide),h]
 simp only
 rw [if_neg h1,if_neg h2]
 unfold leafY
 by_cases h3:w.1=2
 ·rw [if_pos h3,if_pos h3]
 rw [if_neg h3,if_neg h3]
 by_cases h4:w.1=1∧rsv w.2=false
 ·rw [if_pos h4,if_pos h4]
 ·rw [if_neg h4,if_neg h4];rfl
theorem rnA {leaf:Tk→Option Sx}{V:List Sx}{W:List Sg2}{o n:Nat}{w:Tk}{y':Yd}(h:l[n]?=some w) (hs:stA leaf ⟨V,W,o,false⟩ w=(y',true)):rnY leaf l ⟨V,W,o,false⟩ n=rnY leaf l y' (n+1):=by
 rw [rnY_some h,show stp leaf ⟨V,W,o,false⟩ w=(y',true) from hs,if_pos rfl]
theorem rnA_no {leaf:Tk→Option Sx}{V:List Sx}{W:List Sg2}{o n:Nat}{w:Tk}{y':Yd}(h:l[n]?=some w) (hs:stA leaf ⟨V,W,o,false⟩ w=(y',false)):rnY leaf l ⟨V,W,o,false⟩ n=stopY y' n:=by
 rw [rnY_some h,show stp leaf ⟨V,W,o,false⟩ w=(y',false) from hs,if_neg Bool.false_ne_true]
theorem lev_step (hl:∀ w∈l,GdW1 w) (f:Nat) (IH:LevC nb rsv l f):LevC nb rsv l (f+1):=by
 intro k n V W o hk hk6 hW hf
 by_cases h6:k=6
 ·subst h6
  cases hw:l[n]? with
  | none=>
   rw [psr6_end hw,rnY_none hw]
   exact .inl ⟨n,rfl,rfl⟩
  | some w=>
   obtain ⟨hlt,_⟩:=List.getElem?_eq_some_iff.1 hw
   have hg:=hl w (List.mem_of_getElem? hw)
   have hn6:∀ m,NxLt l 6 m:=fun m u hu=>by have:=lv_le u.2;omega
   by_cases hu:w.2=[33]∨w.2=[45]
   ·have h3:¬ w.1≠3:=fun h=>hu.elim (hg.2 h).2.1 (hg.2 h).2.2.1
    have h40:¬ w.2=[40]:=by rcases hu with h | h <;> rw [h] <;> decide
    rw [psr6_un hw hu,rnA hw (y':=⟨V,(w.2,6) :: W,o,false⟩) (by unfold stA;rw [if_neg h3,if_neg h40,if_pos hu])]
    have ih:=IH 6 (n+1) V ((w.2,6) :: W) o (by omega) (by omega) (.inl rfl) (by omega)
    obtain ⟨r,hr⟩:∃ r,psr nb rsv l f 6 (n+1) (-1)=r:=⟨_,rfl⟩
    obtain ⟨z,n',b'⟩:=r
    rw [hr] at ih ⊢
    rcases ih with ⟨m,e1,e2⟩ | ⟨e1,e2,e3,e4⟩ | ⟨e1,e2,e3,e4,e5⟩
    ·exact .inl ⟨m,e1,e2⟩
    ·refine .inr (.inl ⟨e1,Nat.le_trans (Nat.le_succ n) e2,hn6 _,?_⟩)
     have hk1:(if w.2=[33] then (3:Int) else 4)=if w.2=[45] then 4 else 3:=by
      rcases hu with h | h <;> rw [h] <;> decide
     rw [e4,run_jn (k:=6) (by omega) e3]
     simp only
     rw [jn,if_pos (Nat.le_refl _)]
     show rnY _ l ⟨(jn 6 (mk1 (if w.2=[33] then 3 else 4) z :: V) W).1,(jn 6 (mk1 (if w.2=[33] then 3 else 4) z :: V) W).2,o,true⟩ n'=_
     rw [hk1,← run_jn (k:=6) (by omega) e3]
    ·omega
   ·by_cases h40:w.2=[40]
    ·have h3:¬ w.1≠3:=fun h=>(hg.2 h).2.2.2.1 h40
     rw [psr6_par hw h40,rnA hw (y':=⟨V,(w.2,0) :: W,o+1,false⟩) (by unfold stA;rw [if_neg h3,if_pos h40])]
     have ih:=IH 1 (n+1) V ((w.2,0) :: W) (o+1) (by omega) (by omega) (.inr (by show 0 < 1;omega)) (by omega)
     obtain ⟨r,hr⟩:∃ r,psr nb rsv l f 1 (n+1) (-1)=r:=⟨_,rfl⟩
     obtain ⟨z,n',b'⟩:=r
     rw [hr] at ih ⊢
     rcases ih with ⟨m,e1,e2⟩ | ⟨e1,e2,e3,e4⟩ | ⟨e1,e2,e3,e4,e5⟩
     ·simp only at e1 e2
      subst e1
      have hno:¬ isT l [41] n' (m:Int)=true:=by unfold isT;simp only [Bool.and_eq_true,decide_eq_true_eq];omega
      rw [if_neg hno]
      refine .inl ⟨m,?_,e2⟩
      show (if (m:Int) < 0 then (n':Int) else (m:Int))=_
      rw [if_neg (by omega)]
     ·simp only at e1 e2 e3 e4
      subst e1
      cases hw':l[n']? with
      | none=>
       have hno:¬ isT l [41] n' (-1)=true:=by unfold isT;simp only [hw'];simp
       rw [if_neg hno]
       refine .inl ⟨n',rfl,?_⟩
       rw [e4,rnY_none hw']
       unfold stopY
       rw [if_neg (fun h=>by have:=h.2;simp only at this;omega)]
      | some w'=>
       have hlv:=e3 w' hw'
       have hg':=hl w' (List.mem_of_getElem? hw')
       by_cases h41:w'.2=[41]
       ·have hk3:¬ w'.1≠3:=fun h=>(hg'.2 h).2.2.2.2 h41
        have hyes:isT l [41] n' (-1)=true:=by unfold isT;simp only [hw',h41];decide
        rw [if_pos hyes]
        refine .inr (.inl ⟨rfl,by show n≤n'+1;omega,hn6 _,?_⟩)
        rw [e4,rnB hw' (stB_shut hk3 h41 (by show ¬ o+1=0;omega))]
        simp only [jn_skip (k:=1) (V:=z :: V) (W:=(w.2,0) :: W) (by show 0 < 1;omega),List.tail_cons,Nat.add_sub_cancel]
       ·have hno:¬ isT l [41] n' (-1)=true:=by unfold isT;simp only [hw',h41];simp
        rw [if_neg hno]
        refine .inl ⟨n',rfl,?_⟩
        have key:∀ y:Yd,y.o=o+1→stopY y n'=(none,n'):=fun y hy=>by
         unfold stopY
         rw [if_neg (fun h=>by have:=h.2;omega)]
        rw [e4]
        by_cases hk3:w'.1≠3
        ·rw [rnB_no hw' (stB_kind hk3)];exact key _ rfl
        ·rw [rnB_no hw' (stB_none hk3 h41 (by omega))];exact key _ rfl
     ·simp only at e1 e2 e3 e4 e5
      subst e1
      obtain ⟨w',hv1,hv2⟩:=e4
      have h41:¬ w'.2=[41]:=fun e=>by rw [e] at hv2;revert hv2;decide
      have hno:¬ isT l [41] n' (-1)=true:=by unfold isT;simp only [hv1,h41];simp
      rw [if_neg hno]
      refine .inl ⟨n',rfl,?_⟩
      rw [e5]
      unfold stopY
      rw [if_neg (fun h=>by have:=h.2;simp only at this;omega)]
    ·rw [psr6_leaf hw hu h40]
     have hst:stA (leafY nb rsv) ⟨V,W,o,false⟩ w=match leafY nb rsv w with | some x=>(⟨x :: V,W,o,true⟩,true) | none=>(⟨V,W,o,false⟩,false):=by
      unfold stA
      by_cases h3:w.1=3
      ·rw [if_neg (by omega),if_neg h40,if_neg hu]
       unfold leafY
       rw [if_neg (by omega),if_neg (fun h=>by omega)]
      ·rw [if_pos h3]
     cases hlf:leafY nb rsv w with
     | some x=>
      rw [hlf] at hst
      rw [rnA hw hst]
      exact .inr (.inl ⟨rfl,Nat.le_succ n,hn6 _,rfl⟩)
     | none=>
      rw [hlf] at hst
      rw [rnA_no hw hst]
      exact .inl ⟨n,rfl,rfl⟩
 ·have hk5:k≤5:=by omega
  have hWk:topL W < k:=hW.resolve_left h6
  rw [psr,if_neg h6]
  have ih:=IH (k+1) n V W o (by omega) (by omega) (.inr (by omega)) (by omega)
  obtain ⟨r,hr⟩:∃ r,psr nb rsv l f (k+1) n (-1)=r:=⟨_,rfl⟩
  obtain ⟨z,n',b'⟩:=r
  rw [hr] at ih ⊢
  rcases ih with ⟨m,e1,e2⟩ | ⟨e1,e2,e3,e4⟩ | ⟨e1,e2,e3,e4,e5⟩
  ·simp only at e1 e2
   subst e1
   rw [lop_bad]
   exact .inl ⟨m,rfl,e2⟩
  ·simp only at e1 e2 e3 e4
   subst e1
   exact loop_any hl IH hk hk5 hWk _ l.length n' z (by omega) e2 (by omega) e3 e4
  ·simp only at e1 e2 e3 e4 e5
   subst e1
   obtain ⟨w',hv1,hv2⟩:=e4
   rw [lop_neq (fun u hu=>by rw [hv1] at hu;injection hu with hu;subst hu;omega)]
   exact .inr (.inr ⟨rfl,e2,by omega,⟨w',hv1,hv2⟩,e5⟩)
theorem lev_any (hl:∀ w∈l,GdW1 w):∀ f,LevC nb rsv l f
 | 0=>fun k n V W o _ _ _ hf=>absurd hf (Nat.not_lt_zero _)
 | f+1=>lev_step hl f (lev_any hl f)
/-- Read with two stacks, and by levels: the same. -/
theorem yard_psr (hl:∀ w∈l,GdW1 w) {f:Nat}(hf:7*l.length+5 < f):rnY (leafY nb rsv) l ⟨[],[],0,false⟩ 0=if (psr nb rsv l f 1 0 (-1)).2.2 < 0 then (some (psr nb rsv l f 1 0 (-1)).1,(psr nb rsv l f 1 0 (-1)).2.1) else (none,(psr nb rsv l f 1 0 (-1)).2.2.toNat):=by
 have h:=lev_any (nb:=nb) (rsv:=rsv) hl f 1 0 [] [] 0 (by omega) (by omega) (.inr (by show 0 < 1;omega)) (by omega)
 obtain ⟨r,hr⟩:∃ r,psr nb rsv l f 1 0 (-1)=r:=⟨_,rfl⟩
 obtain ⟨z,n',b'⟩:=r
 rw [hr] at h ⊢
 rcases h with ⟨m,e1,e2⟩ | ⟨e1,e2,e3,e4⟩ | ⟨e1,e2,e3,e4,e5⟩
 ·simp only at e1 e2 ⊢
  subst e1
  rw [e2,if_neg (by omega)];simp
 ·simp only at e1 e2 e3 e4 ⊢
  subst e1
  rw [e4,if_pos (by decide)]
  have key:stopY ⟨[z],[],0,true⟩ n'=(some z,n'):=rfl
  cases hw':l[n']? with
  | none=>rw [rnY_none hw',key]
  | some w'=>
   have hlv:=e3 w' hw'
   by_cases hk3:w'.1≠3
   ·rw [rnB_no hw' (stB_kind hk3)];exact key
   by_cases h41:w'.2=[41]
   ·rw [rnB_no hw' (stB_shut0 hk3 h41 rfl)];exact key
   ·rw [rnB_no hw' (stB_none hk3 h41 (by omega))];exact key
 ·simp only at e1 e2 e3 e4 e5 ⊢
  subst e1
  rw [e5,if_pos (by decide)];rfl
end
/-- A piece of a text: a word, or a blank. -/
abbrev Pc:=Option Tk
def pieB (p:Pc):List UInt8:=match p with | some w=>w.2 | none=>[32]
def txP (ps:List Pc):List UInt8:=(ps.map pieB).flatten
theorem txP_cons (p:Pc) (r:List Pc):txP (p :: r)=pieB p++txP r:=rfl
theorem txP_app (a b:List Pc):txP (a++b)=txP a++txP b:=by simp [txP]
/-- An expression's pieces. -/
def aroP (c:Nat × List Pc) (least:Nat):List Pc:=if c.1 < least then some (3,[40]) :: (c.2++[some (3,[41])]) else c.2
def pcF (dc:Int→List UInt8) (k n:Int) (s:ByteArray) (p:List (Nat × List Pc)):Nat × List Pc:=
 (if k=5 then lv s.data.toList else 6,
   if k=1 then [some (2,dc n)] else if k=2 then [some (1,s.data.toList)] else if k=3 then some (3,[33]) :: aroP (p.getD 0 (0,[])) 6 else if k=4 then some (3,[45]) :: aroP (p.getD 0 (0,[])) 6
   else aroP (p.getD 0 (0,[])) (if lv s.data.toList=3 then 4 else lv s.data.toList)++none :: some (3,s.data.toList) :: none :: aroP (p.getD 1 (0,[])) (lv s.data.toList+1))
def pcs (dc:Int→List UInt8):(d:Nat)→T d→Nat × List Pc:=fold (pcF dc)
/-- The nine operators. -/
def opB (s:List UInt8):Prop:=s=[43]∨s=[45]∨s=[42]∨s=[60]∨s=[60,61]∨s=[61,61]∨s=[33,61]∨s=[38,38]∨s=[124,124]
/-- Its names are names, its digits numbers, its operators operators. -/
def rtF (dc:Int→List UInt8) (k n:Int) (s:ByteArray) (p:List Prop):Prop:=(k=1→numB (dc n)=true)∧(k=2→nameS s.data.toList=true)∧(k=5→opB s.data.toList)∧(1≤k∧k≤5)∧∀ q∈p,q
def rtT (dc:Int→List UInt8):(d:Nat)→T d→Prop:=fold (rtF dc)
theorem valB_app:∀ (a b:List UInt8) (n:Int),valB n (a++b)=valB (valB n a) b
 | [],b,n=>rfl
 | c :: a,b,n=>valB_app a b _
theorem dd_small {u:Nat}(h:u < 10):decDigits u=[UInt8.ofNat (48+u)]:=by
 rw [decDigits]
 simp [h]
theorem dd_more {u:Nat}(h:¬ u < 10):decDigits u=decDigits (u / 10)++[UInt8.ofNat (48+u % 10)]:=by
 rw [decDigits]
 simp [h]
theorem dg_nat {u:Nat}(h:u < 10):(UInt8.ofNat (48+u)).toNat=48+u:=by
 rw [UInt8.toNat_ofNat']
 omega
theorem dd_val:∀ (n u:Nat),u≤n→valB 0 (decDigits u)=(u:Int)
 | n,u,h=>by
  by_cases hu:u < 10
  ·rw [dd_small hu]
   show 10*0+(((UInt8.ofNat (48+u)).toNat:Int) - 48)=(u:Int)
   rw [dg_nat hu];omega
  ·match n with
   | 0=>omega
   | n+1=>
    have ih:=dd_val n (u / 10) (by omega)
    rw [dd_more hu,valB_app,ih]
    show 10*((u / 10:Nat):Int)+(((UInt8.ofNat (48+u % 10)).toNat:Int) - 48)=(u:Int)
    rw [dg_nat (Nat.mod_lt u (by decide))]
    omega
theorem dd_all:∀ (n u:Nat),u≤n→(decDigits u).all dB=true
 | n,u,h=>by
  have h1:∀ v,v < 10→dB (UInt8.ofNat (48+v))=true:=fun v hv=>by
   unfold dB;rw [dg_nat hv,decide_eq_true_eq];omega
  by_cases hu:u < 10
  ·rw [dd_small hu]
   show (dB (UInt8.ofNat (48+u)) && true)=true
   rw [h1 u hu];rfl
  ·match n with
   | 0=>omega
   | n+1=>
    rw [dd_more hu,List.all_append,dd_all n (u / 10) (by omega)]
    show (true && (dB (UInt8.ofNat (48+u % 10)) && true))=true
    rw [h1 (u % 10) (Nat.mod_lt u (by decide))];rfl
theorem dd_head:∀ (n u:Nat),u≤n→1≤u→((decDigits u).headD 0).toNat≠48
 | n,u,h,h1=>by
  by_cases hu:u < 10
  ·rw [dd_small hu]
   show (UInt8.ofNat (48+u)).toNat≠48
   rw [dg_nat hu];omega
  ·match n with
   | 0=>omega
   | n+1=>
    have ih:=dd_head n (u / 10) (by omega) (by omega)
    rw [dd_more hu]
    cases hq:decDigits (u / 10) with
    | nil=>
     have:=decDigits_length (u / 10)
     have h2:=nDigits_pos (u / 10)
     rw [hq] at this
     simp at this
     omega
    | cons c r=>rw [hq] at ih;exact ih
theorem nd_le:∀ (k u:Nat),1≤k→u < 10 ^ k→nDigits u≤k
 | 0,_,h,_=>by omega
 | 1,u,_,h=>by rw [nDigits_small (by simpa using h)];exact Nat.le_refl _
 | k+2,u,_,h=>by
  by_cases hu:u < 10
  ·rw [nDigits_small hu];omega
  ·rw [nDigits_big hu]
   have:u / 10 < 10 ^ (k+1):=by rw [Nat.pow_succ] at h;omega
   have:=nd_le (k+1) (u / 10) (by omega) this
   omega
/-- The digits of a number in range are a number's. -/
theorem dd_num {u:Nat}(h:u≤1000000000):numB (decDigits u)=true:=by
 have hl:=decDigits_length u
 have h1:=nDigits_pos u
 have h2:=nd_le 10 u (by decide) (by omega)
 unfold numB
 rw [dd_all u u (Nat.le_refl _),dd_val u u (Nat.le_refl _),decide_eq_true (by omega:1≤(decDigits u).length∧(decDigits u).length≤10),decide_eq_true (by omega:(u:Int)≤1000000000)]
 by_cases hu:u < 10
 ·rw [dd_small hu];simp
 ·rw [decide_eq_false (dd_head u u (Nat.le_refl _) (by omega))];rfl
/-- The reserved words. -/
def rsv13:List (List UInt8):=[[99,104,97,114,116],[118,97,114],[115,116,97,116,101],[97,108,108],[101,110,100],[100,111],[117,110,100,111],[97,116],[114,101,116,114,105,101,115],[111,110],[105,102],[103,111],[115,101,116]]
def rsvB (s:List UInt8):Bool:=rsv13.any (fun x=>s == x)
/-- No Ref's name is reserved. -/
def plC:(d:Nat)→T d→Bool:=fold (fun k _ s l=>!(decide (k=2) && rsvB s.data.toList) && l.all id)
theorem plC_mk {d:Nat}(k n:Int) (s:ByteArray) (ps:List (T d)):plC (d+1) (mkT k n s ps)=(!(decide (k=2) && rsvB s.data.toList) && ps.all (plC d)):=by
 show (!(decide (k=2) && rsvB s.data.toList) && (ps.map (plC d)).all id)=_
 rw [List.all_map];rfl
/-- A number's digits. -/
def dcN (n:Int):List UInt8:=decDigits n.toNat
theorem opr_opB {s:ByteArray}(h:opr s=true):opB s.data.toList:=by
 unfold opr ops9 at h
 simp only [List.any_cons,List.any_nil,Bool.or_false,Bool.or_eq_true,beq_iff_eq] at h
 exact h
theorem opB_lv {s:List UInt8}(h:opB s):1≤lv s:=by
 rcases h with rfl | rfl | rfl | rfl | rfl | rfl | rfl | rfl | rfl <;> decide
theorem lv_opB {s:List UInt8}(h:lv s≠0):opB s:=by
 unfold lv at h
 unfold opB
 by_cases a:s=[124,124]
 ·simp [a]
 rw [if_neg a] at h
 by_cases b:s=[38,38]
 ·simp [b]
 rw [if_neg b] at h
 by_cases c:s=[60]∨s=[60,61]∨s=[61,61]∨s=[33,61]
 ·rcases c with c | c | c | c <;> simp [c]
 rw [if_neg c] at h
 by_cases e:s=[43]∨s=[45]
 ·rcases e with e | e <;> simp [e]
 rw [if_neg e] at h
 by_cases g:s=[42]
 ·simp [g]
 rw [if_neg g] at h
 exact absurd rfl h
theorem name_far {s:List UInt8}(h:nameS s=true):lv s=0∧s≠[33]∧s≠[45]∧s≠[40]:=by
 have key:∀ c:UInt8,∀ r:List UInt8,c.toNat < 128→letter c.toNat=false→s≠c :: r:=fun c r h8 hl e=>by
  subst e
  unfold nameS at h
  simp only [Bool.and_eq_true] at h
  have h1:=h.1.1
  rw [nx_ascii h8,hl] at h1
  cases h1
 refine ⟨?_,key 33 [] (by decide) (by decide),key 45 [] (by decide) (by decide),key 40 [] (by decide) (by decide)⟩
 refine Classical.byContradiction (fun hl=>?_)
 rcases lv_opB hl with e | e | e | e | e | e | e | e | e
 ·exact key 43 [] (by decide) (by decide) e
 ·exact key 45 [] (by decide) (by decide) e
 ·exact key 42 [] (by decide) (by decide) e
 ·exact key 60 [] (by decide) (by decide) e
 ·exact key 60 [61] (by decide) (by decide) e
 ·exact key 61 [61] (by decide) (by decide) e
 ·exact key 33 [61] (by decide) (by decide) e
 ·exact key 38 [38] (by decide) (by decide) e
 ·exact key 124 [124] (by decide) (by decide) e
theorem num_far {s:List UInt8}(h:numB s=true):lv s=0∧s≠[33]∧s≠[45]∧s≠[40]:=by
 have key:∀ c:UInt8,∀ r:List UInt8,dB c=false→s≠c :: r:=fun c r hl e=>by
  subst e
  unfold numB at h
  simp only [Bool.and_eq_true,List.all_cons] at h
  have h1:=h.1.2.1
  rw [hl] at h1
  cases h1
 refine ⟨?_,key 33 [] (by decide),key 45 [] (by decide),key 40 [] (by decide)⟩
 refine Classical.byContradiction (fun hl=>?_)
 rcases lv_opB hl with e | e | e | e | e | e | e | e | e
 ·exact key 43 [] (by decide) e
 ·exact key 45 [] (by decide) e
 ·exact key 42 [] (by decide) e
 ·exact key 60 [] (by decide) e
 ·exact key 60 [61] (by decide) e
 ·exact key 61 [61] (by decide) e
 ·exact key 33 [61] (by decide) e
 ·exact key 38 [38] (by decide) e
 ·exact key 124 [124] (by decide) e
theorem okT_mk {nb:List UInt8→Int}{rsv:List UInt8→Bool}{dc:Int→List UInt8}{d:Nat}{k n:Int}{s:ByteArray}{ps:List (T d)}:okT nb rsv dc (d+1) (mkT k n s ps)↔okF nb rsv dc k n s (ps.map (okT nb rsv dc d)):=Iff.rfl
theorem rtT_mk {dc:Int→List UInt8}{d:Nat}{k n:Int}{s:ByteArray}{ps:List (T d)}:rtT dc (d+1) (mkT k n s ps)↔rtF dc k n s (ps.map (rtT dc d)):=Iff.rfl
/-- What is sound, without reserved names, has the words and the text that can be read. -/
theorem ok_sound:∀ (d:Nat) (t:T d),Cl d t→sdC d t=true→plC d t=true→okT (valB 0) rsvB dcN d t∧rtT dcN d t
 | 0,t,_,_,_=>Empty.elim t
 | d+1,t,hc,hs,hp=>by
  rcases hc.cases with ⟨n,rfl⟩ | ⟨s,rfl⟩ | ⟨k,p,hk,rfl,hcp⟩ | ⟨s,p,q,rfl,hcp,hcq⟩ | rfl
  ·rw [sdC_mk,if_pos rfl] at hs
   simp only [Bool.and_eq_true,decide_eq_true_eq] at hs
   have hn:numB (dcN n)=true:=dd_num (by omega)
   obtain ⟨f1,f2,f3,f4⟩:=num_far hn
   have hv:valB 0 (dcN n)=n:=by unfold dcN;rw [dd_val _ _ (Nat.le_refl _)];omega
   exact ⟨okT_mk.2 ⟨fun _=>⟨hv,f1,f2,f3,f4⟩,fun h=>by simp at h,fun h=>by simp at h,by decide,fun z hz=>by cases hz⟩,rtT_mk.2 ⟨fun _=>hn,fun h=>by simp at h,fun h=>by simp at h,by decide,fun z hz=>by cases hz⟩⟩
  ·rw [sdC_mk,if_neg (by decide),if_pos rfl] at hs
   rw [plC_mk] at hp
   have hr:rsvB s.data.toList=false:=by simpa using hp
   obtain ⟨f1,f2,f3,f4⟩:=name_far hs
   exact ⟨okT_mk.2 ⟨fun h=>by simp at h,fun _=>⟨hr,f1,f2,f3,f4⟩,fun h=>by simp at h,by decide,fun z hz=>by cases hz⟩,rtT_mk.2 ⟨fun h=>by simp at h,fun _=>hs,fun h=>by simp at h,by decide,fun z hz=>by cases hz⟩⟩
  ·have hsp:sdC d p=true:=by
    rw [sdC_mk,if_neg (by omega),if_neg (by omega),if_pos hk] at hs
    simpa using hs
   have hpp:plC d p=true:=by
    rw [plC_mk] at hp
    simp only [Bool.and_eq_true,List.all_cons,List.all_nil,Bool.and_true] at hp
    exact hp.2
   obtain ⟨a,b⟩:=ok_sound d p hcp hsp hpp
   refine ⟨okT_mk.2 ⟨fun h=>by omega,fun h=>by omega,fun h=>by omega,by omega,fun z hz=>?_⟩,rtT_mk.2 ⟨fun h=>by omega,fun h=>by omega,fun h=>by omega,by omega,fun z hz=>?_⟩⟩
   ·obtain ⟨x,hx,rfl⟩:=List.mem_map.1 hz
    obtain rfl:=List.mem_singleton.1 hx
    exact a
   ·obtain ⟨x,hx,rfl⟩:=List.mem_map.1 hz
    obtain rfl:=List.mem_singleton.1 hx
    exact b
  ·have hs2:opr s=true∧sdC d p=true∧sdC d q=true:=by
    rw [sdC_mk,if_neg (by omega),if_neg (by omega),if_neg (by omega),if_pos rfl] at hs
    simpa using hs
   have hp2:plC d p=true∧plC d q=true:=by
    rw [plC_mk] at hp
    simpa using hp
   obtain ⟨a,b⟩:=ok_sound d p hcp hs2.2.1 hp2.1
   obtain ⟨a',b'⟩:=ok_sound d q hcq hs2.2.2 hp2.2
   have ho:=opr_opB hs2.1
   refine ⟨okT_mk.2 ⟨fun h=>by omega,fun h=>by omega,fun _=>opB_lv ho,by omega,fun z hz=>?_⟩,rtT_mk.2 ⟨fun h=>by omega,fun h=>by omega,fun _=>ho,by omega,fun z hz=>?_⟩⟩
   ·obtain ⟨x,hx,rfl⟩:=List.mem_map.1 hz
    rcases List.mem_cons.1 hx with rfl | hx
    ·exact a
    ·obtain rfl:=List.mem_singleton.1 hx
     exact a'
   ·obtain ⟨x,hx,rfl⟩:=List.mem_map.1 hz
    rcases List.mem_cons.1 hx with rfl | hx
    ·exact b
    ·obtain rfl:=List.mem_singleton.1 hx
     exact b'
  ·unfold none0 at hs
   rw [sdC_mk] at hs
   simp at hs
end Go.Proofs.YtlgnahpfggagoaaGreatDoor
