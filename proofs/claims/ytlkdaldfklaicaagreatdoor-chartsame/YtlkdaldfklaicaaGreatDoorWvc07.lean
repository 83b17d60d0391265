import Derived.Test.YtlkdaldfklaicaaGreatDoorWvc01
import Derived.Test.YtlkdaldfklaicaaGreatDoorWvc06
import Derived.Test.YtlkdaldfklaicaaGreatDoorRows
import Derived.Test.YtlkdaldfklaicaaGreatDoorWvc02
import Derived.Test.YtlkdaldfklaicaaGreatDoorWvc05
import Derived.Test.YtlkdaldfklaicaaGreatDoorWvc04
import Derived.Deep.RegionLaw
import Derived.Test.YtlkdaldfklaicaaGreatDoorWvc03
set_option maxRecDepth 100000
set_option maxHeartbeats 32000000
namespace Go.Proofs.YtlkdaldfklaicaaGreatDoor
open Go.RowKit Go.Lib
set_option linter.unusedSimpArgs false
set_option linter.unusedVariables false
attribute [local go_sem ↓] Go.wp_at_zero Go.wp_at_succ
structure zgH (y:Yd) (n:Nat):Prop where
 v:y.V.length=zbg y.W+(if y.b=true then 1 else 0)
 o:y.o=brk y.W
 w:y.W.length<=n
theorem zjm:zgH ⟨[],[],0,false⟩ 0:=⟨rfl,rfl,Nat.le_refl _⟩
theorem zln {leaf:Tk->Option Sx}{y:Yd}{n:Nat}(h:zgH y n) (w:Tk):zgH (stp leaf y w).1 (n+1):=by
 obtain ⟨V,W,o,b⟩:=y
 have h1:=h.v
 have h2:=h.o
 have h3:=h.w
 have hsame:zgH ⟨V,W,o,b⟩ (n+1):=⟨h1,h2,Nat.le_succ_of_le h3⟩
 simp only at h1 h2 h3
 unfold stp
 cases b with
 | true=>
  rw [if_pos rfl] at h1 ⊢
  by_cases hk:w.1≠3
  ·rw [za0 hk];exact hsame
  by_cases h41:w.2=[41]
  ·by_cases ho:o=0
   ·rw [zbX hk h41 ho];exact hsame
   ·rw [zcC hk h41 ho]
    obtain ⟨a1,a2,a3,a4⟩:=zdW (k:=1) (by omega) W V h1
    obtain ⟨s,W',e,e1,e2⟩:=ziB (W:=(jn 1 V W).2) (by omega) a4
    refine ⟨?_,?_,?_⟩
    ·show (jn 1 V W).1.length=zbg (jn 1 V W).2.tail+_
     rw [a1,e2,e];rfl
    ·show o - 1=brk (jn 1 V W).2.tail
     rw [e,List.tail_cons];omega
    ·show (jn 1 V W).2.tail.length<=n+1
     rw [List.length_tail];omega
  ·by_cases hl:lv w.2=0
   ·rw [zb7 hk h41 hl];exact hsame
   ·by_cases ht:lv w.2=3/\zbV (jn 4 V W).2=3
    ·rw [zdx hk ht.1 ht.2]
     obtain ⟨a1,a2,a3,a4⟩:=zdW (k:=4) (by omega) W V h1
     exact ⟨a1,h2.trans a2.symm,by show (jn 4 V W).2.length<=n+1;omega⟩
    ·rw [zcZ hk rfl (by omega) (fun q=>ht ⟨q.1,by have:=q.2;rw [q.1] at this;exact this⟩)]
     obtain ⟨a1,a2,a3,a4⟩:=zdW (k:=lv w.2) (by omega) W V h1
     have h5:=zkN w.2
     refine ⟨?_,?_,by show (jn (lv w.2) V W).2.length+1<=n+1;omega⟩
     ·show (jn (lv w.2) V W).1.length=zbg (jn (lv w.2) V W).2+(if lv w.2=0∨lv w.2=6 then 0 else 1)+0
      rw [if_neg (by omega)];exact a1
     ·show o=brk (jn (lv w.2) V W).2+(if lv w.2=0 then 1 else 0)
      rw [if_neg hl];omega
 | false=>
  rw [if_neg Bool.false_ne_true] at h1 ⊢
  unfold stA
  by_cases hk:w.1≠3
  ·rw [if_pos hk]
   cases leaf w with
   | some x=>exact ⟨by show V.length+1=zbg W+1;omega,h2,Nat.le_succ_of_le h3⟩
   | none=>exact hsame
  ·rw [if_neg hk]
   by_cases h40:w.2=[40]
   ·rw [if_pos h40]
    exact ⟨h1,by show o+1=brk W+1;omega,by show W.length+1<=n+1;omega⟩
   ·rw [if_neg h40]
    by_cases hu:w.2=[33]∨w.2=[45]
    ·rw [if_pos hu]
     exact ⟨h1,h2,by show W.length+1<=n+1;omega⟩
    ·rw [if_neg hu];exact hsame
theorem zhb (W:List Sg2):brk W<=W.length:=by
 induction W with
 | nil=>exact Nat.le_refl _
 | cons x r ih=>show brk r+_<=r.length+1;split<;>omega
theorem ziW {w:World}{X K n:Nat}{seg:List Ru}{V:List Sx}{W:List Sg2}{o:Nat}{vv ww:Value}(h:Rdr w X ⟨V,W,o,false⟩ vv ww) (hi:zgH ⟨V,W,o,false⟩ n) (hn:n<=3000) (h1:OneW K seg) (ln co:Int) :
  Calls Tryz.prog 100 #[.pointer (some ⟨X,0,none⟩),wdV K seg ln co] w fun e w'=>e=.returned (.bool (stA (zL (zz 0) zX) ⟨V,W,o,false⟩ (K,byt seg)).2)/\(∃ vv' ww',Rdr w' X (stA (zL (zz 0) zX) ⟨V,W,o,false⟩ (K,byt seg)).1 vv' ww')/\Below X w w':=by
 have hv:=hi.v
 have ho:=hi.o
 have hw:=hi.w
 have hb:=zfO W
 have hbk:=zhb W
 simp only at hv ho hw
 rw [if_neg (by decide)] at hv
 by_cases hK:K=3
 ·subst hK
  exact zhf h (byt seg) h1.l ln co (by omega) (by omega)
 ·have e:stA (zL (zz 0) zX) ⟨V,W,o,false⟩ (K,byt seg)=match zL (zz 0) zX (K,byt seg) with|some x=>(⟨x :: V,W,o,true⟩,true)|none=>(⟨V,W,o,false⟩,false):=by
   unfold stA;rw [if_pos hK]
   cases zL (zz 0) zX (K,byt seg)<;>rfl
  rw [e]
  cases hx:zL (zz 0) zX (K,byt seg) with
  | some x=>exact zg7 h h1 ln co hK (by omega) hx
  | none=>exact zkg h h1 ln co hK hx
theorem zhi {w:World}{X K n:Nat}{seg:List Ru}{V:List Sx}{W:List Sg2}{o:Nat}{vv ww:Value}(h:Rdr w X ⟨V,W,o,true⟩ vv ww) (hi:zgH ⟨V,W,o,true⟩ n) (hn:n<=3000) (h1:OneW K seg) (ln co:Int) :
  Calls Tryz.prog 99 #[.pointer (some ⟨X,0,none⟩),wdV K seg ln co] w fun e w'=>e=.returned (.bool (stB ⟨V,W,o,true⟩ (K,byt seg)).2)/\(∃ vv' ww',Rdr w' X (stB ⟨V,W,o,true⟩ (K,byt seg)).1 vv' ww')/\Below X w w':=by
 have hv:V.length=zbg W+1:=hi.v
 have ho:o=brk W:=hi.o
 have hw:W.length<=n:=hi.w
 by_cases hK:K=3
 ·subst hK
  by_cases h41:byt seg=[41]
  ·have:wdV 3 seg ln co=sgV [41] ln co:=by
    show Value.agg #[.int .i64 ((3:Nat):Int),.string ⟨(byt seg).toArray⟩,_,_]=_
    rw [h41];rfl
   rw [this,h41]
   exact zgG h ln co ho hv (by omega)
  ·by_cases hl:lv (byt seg)=0
   ·rw [zb7 (by simp) h41 hl]
    exact zfY h (byt seg) ln co h41 hl
   ·exact ziX h (byt seg) ln co _ rfl (by omega) hv (by omega)
 ·rw [za0 hK]
  exact zf4 h ln co hK
theorem zjv {w:World}{X K n:Nat}{seg:List Ru}{y:Yd}{vv ww:Value}(h:Rdr w X y vv ww) (hi:zgH y n) (hn:n<=3000) (h1:OneW K seg) (ln co:Int) :
  Calls Tryz.prog 92 #[.pointer (some ⟨X,0,none⟩),wdV K seg ln co] w fun e w'=>e=.returned (.bool (stp (zL (zz 0) zX) y (K,byt seg)).2)/\(∃ vv' ww',Rdr w' X (stp (zL (zz 0) zX) y (K,byt seg)).1 vv' ww')/\Below X w w':=by
 obtain ⟨V,W,o,b⟩:=y
 have hX:=h.lt
 have hq0:Below w.heap.size w (w.alloc (.cells #[.int .i64 (K:Int),.string (txt seg),.int .i64 ln,.int .i64 co] 73)):=zn3.alloc zn2 _
 have hA0:=At4.new w (.int .i64 (K:Int)) (.string (txt seg)) (.int .i64 ln) (.int .i64 co) 73
 have hr0:=h.on hq0
 have hb0:=hq0.mono (Nat.le_of_lt hX)
 obtain ⟨y0,y1,y2,y3⟩:=id hA0
 obtain ⟨z0,z1,z2,z3,g0,g1,g2,g3⟩:=id hr0.b
 unfold stp
 cases b with
 | true=>
  rw [if_pos rfl]
  have hC:=zhi hr0 hi hn h1 ln co
  obtain ⟨r,hr⟩:∃ r,stB ⟨V,W,o,true⟩ (K,byt seg)=r:=⟨_,rfl⟩
  unfold wdV at hC ⊢
  rw [hr] at hC ⊢
  go_enter Tryz.func92,Tryz.ntmps92
  go_wp2_with (first
   | (go_at_call 99;refine hC.mono ?_;rintro e w1 ⟨rfl,⟨vv1,ww1,hr1⟩,b1⟩))
  go_ret
  exact ⟨rfl,⟨_,_,hr1⟩,hb0.trans b1⟩
 | false=>
  rw [if_neg Bool.false_ne_true]
  have hC:=ziW hr0 hi hn h1 ln co
  obtain ⟨r,hr⟩:∃ r,stA (zL (zz 0) zX) ⟨V,W,o,false⟩ (K,byt seg)=r:=⟨_,rfl⟩
  unfold wdV at hC ⊢
  rw [hr] at hC ⊢
  go_enter Tryz.func92,Tryz.ntmps92
  go_wp2_with (first
   | (go_at_call 100;refine hC.mono ?_;rintro e w1 ⟨rfl,⟨vv1,ww1,hr1⟩,b1⟩))
  go_ret
  exact ⟨rfl,⟨_,_,hr1⟩,hb0.trans b1⟩
theorem zco {w:World}{X:Nat}{y:Yd}{vv ww:Value}(h:Rdr w X y vv ww) (ho:y.o<=4000) :
  Calls Tryz.prog 93 #[.pointer (some ⟨X,0,none⟩)] w fun e w'=>e=.returned (.bool (y.b && decide (y.o=0)))/\Below w.heap.size w w':=by
 obtain ⟨V,W,o,b⟩:=y
 obtain ⟨z0,z1,z2,z3,g0,g1,g2,g3⟩:=id h.b
 simp only at z2 z3 ho ⊢
 clear h
 cases b with
 | true=>
  by_cases hq:o=0
  ·have i1:((o:Int) == 0)=true:=by simp;omega
   rw [decide_eq_true hq]
   clear hq
   go_enter Tryz.func93,Tryz.ntmps93
   go_wp2
   go_ret
   exact ⟨rfl,Below.refl _ _⟩
  ·have i1:((o:Int) == 0)=false:=beq_eq_false_iff_ne.2 (by omega)
   rw [decide_eq_false hq]
   clear hq
   go_enter Tryz.func93,Tryz.ntmps93
   go_wp2
   go_ret
   exact ⟨rfl,Below.refl _ _⟩
 | false=>
  rw [Bool.false_and]
  go_enter Tryz.func93,Tryz.ntmps93
  go_wp2
  go_ret
  exact ⟨rfl,Below.refl _ _⟩
theorem zkA {V:List Sx}{W:List Sg2}(hV:V.length=zbg W+1) (hb:brk W=0):∃ x,jn 1 V W=([x],[]):=by
 obtain ⟨a1,a2,a3,a4⟩:=zdW (k:=1) (by omega) W V hV
 have hW:(jn 1 V W).2=[]:=by
  cases hq:(jn 1 V W).2 with
  | nil=>rfl
  | cons s r=>
   rw [hq] at a2 a4
   have:s.2 < 1:=a4
   have h3:brk r+(if s.2=0 then 1 else 0)=brk W:=a2
   rw [if_pos (by omega)] at h3
   omega
 rw [hW] at a1
 obtain ⟨x,hx⟩:∃ x,(jn 1 V W).1=[x]:=by
  match hq:(jn 1 V W).1,a1 with
  | [x],_=>exact ⟨x,rfl⟩
 exact ⟨x,by rw [<- hx,<- hW]⟩
theorem ziq {w:World}{X:Nat}{V:List Sx}{W:List Sg2}{o:Nat}{b:Bool}{vv ww:Value}(h:Rdr w X ⟨V,W,o,b⟩ vv ww) (hV:V.length=zbg W+1) (hl:W.length<=3001) {x:Sx}(hx:jn 1 V W=([x],[])) :
  Calls Tryz.prog 94 #[.pointer (some ⟨X,0,none⟩)] w fun e w'=>e=.returned (exX x)/\Below X w w':=by
 have hJ:=zdg h 1 (by omega) (by omega) hV hl
 rw [hx] at hJ
 simp only at hJ
 go_enter Tryz.func94,Tryz.ntmps94
 go_wp2_with (first
  | (go_at_call 101;refine hJ.mono ?_;rintro e w1 ⟨⟨u,rfl⟩,⟨vv1,ww1,hr1,_⟩,b1⟩;obtain ⟨g,cap,rfl,q1,q2,q3,q4,c0,fz,_⟩:=zdJ hr1.v;obtain ⟨z0,z1,z2,z3,g0,g1,g2,g3⟩:=id hr1.b;simp only [List.length_nil] at c0 z0))
 go_ret
 exact ⟨rfl,b1⟩
theorem zlu (s:ByteArray) (x:List UInt8):(s.toList == x)=(bl s == x):=by rw [ByteArray.toList_eq]
theorem zeP (s:ByteArray) (w:World):Calls Tryz.prog 116 #[.string s] w fun e w'=>e=.returned (.bool (opr s))/\w=w':=by
 have hS:=zlu s
 obtain ⟨l,hl⟩:∃ l,bl s=l:=⟨_,rfl⟩
 have ho:opr s=zm2.any (fun x=>l == x):=by rw [<- hl];rfl
 rw [ho]
 simp only [hl] at hS
 clear hl ho
 obtain ⟨L,hL⟩:∃ L,s.toList=L:=⟨_,rfl⟩
 have q0:(s.toList == [43])=(l == [43]):=hS _
 have q1:(s.toList == [45])=(l == [45]):=hS _
 have q2:(s.toList == [42])=(l == [42]):=hS _
 have q3:(s.toList == [60])=(l == [60]):=hS _
 have q4:(s.toList == [60,61])=(l == [60,61]):=hS _
 have q5:(s.toList == [61,61])=(l == [61,61]):=hS _
 have q6:(s.toList == [33,61])=(l == [33,61]):=hS _
 have q7:(s.toList == [38,38])=(l == [38,38]):=hS _
 have q8:(s.toList == [124,124])=(l == [124,124]):=hS _
 clear hS hL
 simp only [zm2,List.any_cons,List.any_nil,Bool.or_false]
 cases r0:(l == [43])
 case true=>rw [r0] at q0;clear q1 q2 q3 q4 q5 q6 q7 q8;go_enter Tryz.func116,Tryz.ntmps116;go_wp2;go_ret;exact ⟨zT (by simp),rfl⟩
 cases r1:(l == [45])
 case true=>rw [r0] at q0;rw [r1] at q1;clear q2 q3 q4 q5 q6 q7 q8;go_enter Tryz.func116,Tryz.ntmps116;go_wp2;go_ret;exact ⟨zT (by simp),rfl⟩
 rw [r0] at q0;rw [r1] at q1
 cases r2:(l == [42])
 case true=>rw [r2] at q2;clear q3 q4 q5 q6 q7 q8;go_enter Tryz.func116,Tryz.ntmps116;go_wp2;go_ret;exact ⟨zT (by simp),rfl⟩
 rw [r2] at q2
 cases r3:(l == [60])
 case true=>rw [r3] at q3;clear q4 q5 q6 q7 q8;go_enter Tryz.func116,Tryz.ntmps116;go_wp2;go_ret;exact ⟨zT (by simp),rfl⟩
 rw [r3] at q3
 cases r4:(l == [60,61])
 case true=>rw [r4] at q4;clear q5 q6 q7 q8;go_enter Tryz.func116,Tryz.ntmps116;go_wp2;go_ret;exact ⟨zT (by simp),rfl⟩
 rw [r4] at q4
 cases r5:(l == [61,61])
 case true=>rw [r5] at q5;clear q6 q7 q8;go_enter Tryz.func116,Tryz.ntmps116;go_wp2;go_ret;exact ⟨zT (by simp),rfl⟩
 rw [r5] at q5
 cases r6:(l == [33,61])
 case true=>rw [r6] at q6;clear q7 q8;go_enter Tryz.func116,Tryz.ntmps116;go_wp2;go_ret;exact ⟨zT (by simp),rfl⟩
 rw [r6] at q6
 cases r7:(l == [38,38])
 case true=>rw [r7] at q7;clear q8;go_enter Tryz.func116,Tryz.ntmps116;go_wp2;go_ret;exact ⟨zT (by simp),rfl⟩
 rw [r7] at q7
 cases r8:(l == [124,124])
 case true=>rw [r8] at q8;go_enter Tryz.func116,Tryz.ntmps116;go_wp2;go_ret;exact ⟨zT (by simp),rfl⟩
 rw [r8] at q8
 go_enter Tryz.func116,Tryz.ntmps116
 go_wp2
 go_ret
 exact ⟨zT (by simp),rfl⟩
def rtC (k n:Int) (s:ByteArray):Bool:=if k=1 then decide (0<=n) && decide (n<=1000000000) else if k=2 then zae (bl s) else if k=3∨k=4 then true else if k=5 then opr s else false
theorem zfy (k n:Int) (s:ByteArray) (a:Option Addr) (m:Nat) (hs:s.size<=1000) (w:World) :
  Calls Tryz.prog 110 #[.agg #[.int .i64 k,.int .i64 n,.string s,.slice a m m]] w fun e w'=>e=.returned (.bool (rtC k n s))/\Below w.heap.size w w':=by
 have hb:Below w.heap.size w (w.alloc (.cells #[.int .i64 k,.int .i64 n,.string s,.slice a m m] 146)):=zn3.alloc zn2 _
 have h1:=fun w1=>zfq s w1 (by omega)
 have h2:=fun w1=>zeP s w1
 unfold rtC
 by_cases k1:k=1
 ·subst k1
  rw [if_pos rfl]
  clear h1 h2
  by_cases c1:0<=n
  ·by_cases c2:n<=1000000000
   ·rw [decide_eq_true c1,decide_eq_true c2]
    go_enter Tryz.func110,Tryz.ntmps110
    go_wp2
    go_ret
    exact ⟨rfl,hb⟩
   ·rw [decide_eq_true c1,decide_eq_false c2]
    go_enter Tryz.func110,Tryz.ntmps110
    go_wp2
    go_ret
    exact ⟨rfl,hb⟩
  ·rw [decide_eq_false c1,Bool.false_and]
   go_enter Tryz.func110,Tryz.ntmps110
   go_wp2
   go_ret
   exact ⟨rfl,hb⟩
 rw [if_neg k1]
 have e1:(k == 1)=false:=beq_eq_false_iff_ne.2 k1
 by_cases k2:k=2
 ·subst k2
  rw [if_pos rfl]
  clear h2 k1 e1
  go_enter Tryz.func110,Tryz.ntmps110
  go_wp2_with (first
   | (go_at_call 67;refine (h1 _).mono ?_;rintro e w1 ⟨rfl,b1⟩))
  go_ret
  exact ⟨rfl,hb.trans (b1.mono hb.size)⟩
 rw [if_neg k2]
 have e2:(k == 2)=false:=beq_eq_false_iff_ne.2 k2
 by_cases k34:k=3∨k=4
 ·rw [if_pos k34]
  clear h1 h2
  rcases k34 with rfl|rfl
  ·go_enter Tryz.func110,Tryz.ntmps110
   go_wp2
   go_ret
   exact ⟨rfl,hb⟩
  ·go_enter Tryz.func110,Tryz.ntmps110
   go_wp2
   go_ret
   exact ⟨rfl,hb⟩
 rw [if_neg k34]
 have e3:(k == 3)=false:=beq_eq_false_iff_ne.2 (by omega)
 have e4:(k == 4)=false:=beq_eq_false_iff_ne.2 (by omega)
 clear k34
 by_cases k5:k=5
 ·subst k5
  rw [if_pos rfl]
  clear h1 k1 k2 e1 e2 e3 e4
  go_enter Tryz.func110,Tryz.ntmps110
  go_wp2_with (first
   | (go_at_call 116;refine (h2 _).mono ?_;rintro e w1 ⟨rfl,rfl⟩))
  go_ret
  exact ⟨rfl,hb⟩
 rw [if_neg k5]
 have e5:(k == 5)=false:=beq_eq_false_iff_ne.2 k5
 clear h1 h2
 go_enter Tryz.func110,Tryz.ntmps110
 go_wp2
 go_ret
 exact ⟨rfl,hb⟩
end Go.Proofs.YtlkdaldfklaicaaGreatDoor
namespace Go.Proofs.YtlkdaldfklaicaaGreatDoor
open Go.RowKit Go.Lib
set_option linter.unusedSimpArgs false
set_option linter.unusedVariables false
attribute [local go_sem ↓] Go.wp_at_zero Go.wp_at_succ
attribute [local go_sem] znR
theorem zcf:∀ (st:List Sg),st.length<=(st.map zaa).sum
 | []=>by simp
 | x :: r=>by
  have:=zcf r
  have h1:1<=zaa x:=zij x.1 x.2
  simp only [List.map_cons,List.sum_cons,List.length_cons]
  omega
theorem zeD (d:Nat) (t:T d) (w:World) (hc:Cl d t) (hn:cnt d t<=100000):Calls Tryz.prog 75 #[exV d t] w fun r w'=>r=.returned (.int .i64 ((min (cnt d t) 41:Nat):Int))/\Below w.heap.size w w':=by
 obtain ⟨i0,hi,hz0,hz1,hz2⟩:=info_parts Tryz.infoE
 obtain ⟨x,hx⟩:∃ x,exV d t=x:=⟨_,rfl⟩
 have hf:=zaz d t
 obtain ⟨N,hN⟩:∃ N,cnt d t=N:=⟨_,rfl⟩
 have hst:Hid (Stk (w.alloc (.cells #[x] 87)) w.heap.size (.slice (some ⟨w.heap.size,0,none⟩) 1 1) [(⟨d,t⟩:Sg)]):=by
  have:=World.ownsRow_lit (e:=87) (base:=w.heap.size) (size:=1) w #[x] 1 zn2 (by simp [maxLen]) (by simp)
  show Stk _ _ _ _
  unfold Stk
  simpa [exS,hx] using this
 have hcl:Hid (∀ y∈[(⟨d,t⟩:Sg)],ClS y):=fun y hy=>by simp at hy;subst hy;exact hc
 have hsum:Hid (0+(([(⟨d,t⟩:Sg)]).map zaa).sum=N):=by show 0+(cnt d t+0)=N;omega
 obtain ⟨V,hV⟩:∃ V,min (cnt d t) 41=V:=⟨_,rfl⟩
 rw [hV]
 have HV:Hid (min N 41=V):=by rw [<- hN];exact hV
 rw [hN] at hn
 rw [hx] at hf ⊢
 clear hx hN hc hV
 obtain ⟨S,hS⟩:∃ S,[(⟨d,t⟩:Sg)]=S:=⟨_,rfl⟩
 rw [hS] at hst hcl hsum
 clear hS t d
 rcases hf with rfl|⟨u,y,rfl⟩
 ·go_enter Tryz.func75,Tryz.ntmps75
  go_wp2
  go_loopw [3,4] (fun a v wr=>∃ (c:Nat) (st:List Sg),a=.int .i64 (c:Int)/\c<=41/\Stk wr w.heap.size v st/\Hid (∀ y∈st,ClS y)/\Hid (c+(st.map zaa).sum=N)/\Below w.heap.size w wr) (fun a _ _=>41 - (RowKit.intOf a).toNat)
  case atStart=>exact ⟨0,S,rfl,by omega,hst.out,hcl,hsum,zn3.alloc zn2 _⟩
  case round=>
   obtain ⟨c,st,rfl,hc41,hS,hC,hM,hb⟩:=hrel
   by_cases he:st=[]
   ·subst he
    obtain ⟨a,cap,rfl⟩:=hS.nil
    have hm:=hM.out
    simp only [List.map_nil,List.sum_nil,Nat.add_zero] at hm
    subst hm
    have hmin:V=c:=by rw [<- HV.out];omega
    subst hmin
    clear hsum
    go_wp2
    go_ret
    exact ⟨rfl,hb⟩
   obtain ⟨st',y,rfl⟩:=zbd he
   obtain ⟨g,cap,rfl,hcap,hcm,hgb,hgl,hcell,hS'⟩:=hS.pop
   have hm:=hM.out
   rw [List.map_append,List.sum_append,List.map_singleton,List.sum_singleton] at hm
   have hcl1:=hC.out y (by simp)
   obtain ⟨e,t⟩:=y
   cases e with
   | zero=>exact Empty.elim t
   | succ e=>
   obtain ⟨k,n,s,ps,rfl,htop⟩:=zfV (d:=e) (t:=t) hcl1
   have hcs:zaa ⟨e+1,mkT k n s ps⟩=(ps.map (cnt e)).sum+1:=zau k n s ps
   rw [hcs] at hm
   have i1:((st'.length:Int)+1 > 0):=by omega
   by_cases hc40:c=41
   ·have i2:¬ (c:Int)<=40:=by omega
    have hmin:V=c:=by rw [<- HV.out];omega
    subst hmin
    clear hsum htop hcell hm hcs hC hM hS hS' hcl1 hst HV
    go_wp2
    go_ret
    exact ⟨rfl,hb⟩
   have i2:(c:Int)<=40:=by omega
   have hS2:=fun w1 (b:Below wr.heap.size wr w1)=>hS'.on b zn2
   have hq:=hb.size
   have i3:(0:Int)<=(st'.length:Int):=by omega
   have i4:(st'.length:Int)<=(cap:Int):=by omega
   have i5:(st'.length:Int) < (st'.length:Int)+1:=by omega
   have hpl:ps.length<=2:=(Cl.parts hcl1).1
   have hsl:st'.length<=100000:=by
    have:st'.length<=(st'.map zaa).sum:=zcf st'
    omega
   have hNM:Hid (c+1+((st'++zO ps).map zaa).sum=N):=by
    show _=_
    rw [List.map_append,List.sum_append,zaP];omega
   have hNC:Hid (∀ y∈st'++zO ps,ClS y):=fun y hy=>by
    rcases List.mem_append.1 hy with h|h
    ·exact hC.out y (by simp [h])
    ·obtain ⟨p,hp,rfl⟩:=List.mem_map.1 h
     exact (Cl.parts hcl1).2 p hp
   obtain ⟨L,hL⟩:∃ L,ps.map (exV e)=L:=⟨_,rfl⟩
   obtain ⟨z,hz⟩:∃ z,exS ⟨e+1,mkT k n s ps⟩=z:=⟨_,rfl⟩
   have hzf:=zgi ⟨e+1,mkT k n s ps⟩
   have hti:Hid (∀ v∈L,Ifc v):=by rw [<- hL];exact zbc ps
   have hLl:Hid (L.length=ps.length):=by rw [<- hL];show _=_;simp
   have hL2:L.length<=2:=by rw [hLl.out];exact hpl
   have htop':∀ w1,Calls Tryz.prog 73 #[z] w1 fun e w'=>∃ sl,e=.returned (.agg #[.int .i64 k,.int .i64 n,.string s,sl])/\Kids w' sl L/\Below w1.heap.size w1 w':=by rw [<- hz,<- hL];exact htop
   rw [hz] at hcell hzf
   have hLH:Hid (ps.map (exV e)=L):=hL
   clear hL hz htop hm hcs hC hM hS hcl1 hst hsum hS'
   go_wp2
   go_region_law (first
     | (refine za6 _ (by rfl) (.tmp 20) (.tmp 26) 144 144 (by rfl) w.heap.size 87 i0 .nilIface 1 16 Tryz.underlying144 hi hz0 hz1 hz2 rfl _ st'.length _ (by rfl) ho1 _ L.length L (by rfl) (hk1.src hti.out) L.length (.inr (by omega)) zn2 (by unfold maxLen;omega) (zn5 hq b1'.size) ?_;intro v4 w4 ho4 hg4 _)
     | (go_simp;refine (htop' _).mono ?_;rintro e w1 ⟨sl,rfl,hk1,b1⟩;obtain ⟨a1,rfl⟩:=hk1.form;have b1':Below wr.heap.size wr w1:=((Below.refl _ wr).drew).trans b1;have ho1:=hS2 w1 b1'))
   have bel4:Below w.heap.size w w4:=(hb.trans (b1'.mono hq)).grown hg4 (zn5 hq b1'.size) (fun k hk=>(World.ownsRow.lt ho1 k hk).1)
   have hS4:Stk w4 w.heap.size v4 (st'++zO ps):=Stk.push (n:=st'.length+L.length) (by rw [hLl.out]) (by rw [hLH.out];exact ho4)
   clear ho4 hg4 ho1 hk1 b1 b1' hS2 hcell htop' hb
   go_wp2
   go_roundw
   case rel=>exact ⟨c+1,st'++zO ps,by go_num,by omega,hS4,hNC,hNM,bel4⟩
   case measure=>simp [RowKit.intOf];omega
 ·go_enter Tryz.func75,Tryz.ntmps75
  go_wp2
  go_loopw [3,4] (fun a v wr=>∃ (c:Nat) (st:List Sg),a=.int .i64 (c:Int)/\c<=41/\Stk wr w.heap.size v st/\Hid (∀ y∈st,ClS y)/\Hid (c+(st.map zaa).sum=N)/\Below w.heap.size w wr) (fun a _ _=>41 - (RowKit.intOf a).toNat)
  case atStart=>exact ⟨0,S,rfl,by omega,hst.out,hcl,hsum,zn3.alloc zn2 _⟩
  case round=>
   obtain ⟨c,st,rfl,hc41,hS,hC,hM,hb⟩:=hrel
   by_cases he:st=[]
   ·subst he
    obtain ⟨a,cap,rfl⟩:=hS.nil
    have hm:=hM.out
    simp only [List.map_nil,List.sum_nil,Nat.add_zero] at hm
    subst hm
    have hmin:V=c:=by rw [<- HV.out];omega
    subst hmin
    clear hsum
    go_wp2
    go_ret
    exact ⟨rfl,hb⟩
   obtain ⟨st',y,rfl⟩:=zbd he
   obtain ⟨g,cap,rfl,hcap,hcm,hgb,hgl,hcell,hS'⟩:=hS.pop
   have hm:=hM.out
   rw [List.map_append,List.sum_append,List.map_singleton,List.sum_singleton] at hm
   have hcl1:=hC.out y (by simp)
   obtain ⟨e,t⟩:=y
   cases e with
   | zero=>exact Empty.elim t
   | succ e=>
   obtain ⟨k,n,s,ps,rfl,htop⟩:=zfV (d:=e) (t:=t) hcl1
   have hcs:zaa ⟨e+1,mkT k n s ps⟩=(ps.map (cnt e)).sum+1:=zau k n s ps
   rw [hcs] at hm
   have i1:((st'.length:Int)+1 > 0):=by omega
   by_cases hc40:c=41
   ·have i2:¬ (c:Int)<=40:=by omega
    have hmin:V=c:=by rw [<- HV.out];omega
    subst hmin
    clear hsum htop hcell hm hcs hC hM hS hS' hcl1 hst HV
    go_wp2
    go_ret
    exact ⟨rfl,hb⟩
   have i2:(c:Int)<=40:=by omega
   have hS2:=fun w1 (b:Below wr.heap.size wr w1)=>hS'.on b zn2
   have hq:=hb.size
   have i3:(0:Int)<=(st'.length:Int):=by omega
   have i4:(st'.length:Int)<=(cap:Int):=by omega
   have i5:(st'.length:Int) < (st'.length:Int)+1:=by omega
   have hpl:ps.length<=2:=(Cl.parts hcl1).1
   have hsl:st'.length<=100000:=by
    have:st'.length<=(st'.map zaa).sum:=zcf st'
    omega
   have hNM:Hid (c+1+((st'++zO ps).map zaa).sum=N):=by
    show _=_
    rw [List.map_append,List.sum_append,zaP];omega
   have hNC:Hid (∀ y∈st'++zO ps,ClS y):=fun y hy=>by
    rcases List.mem_append.1 hy with h|h
    ·exact hC.out y (by simp [h])
    ·obtain ⟨p,hp,rfl⟩:=List.mem_map.1 h
     exact (Cl.parts hcl1).2 p hp
   obtain ⟨L,hL⟩:∃ L,ps.map (exV e)=L:=⟨_,rfl⟩
   obtain ⟨z,hz⟩:∃ z,exS ⟨e+1,mkT k n s ps⟩=z:=⟨_,rfl⟩
   have hzf:=zgi ⟨e+1,mkT k n s ps⟩
   have hti:Hid (∀ v∈L,Ifc v):=by rw [<- hL];exact zbc ps
   have hLl:Hid (L.length=ps.length):=by rw [<- hL];show _=_;simp
   have hL2:L.length<=2:=by rw [hLl.out];exact hpl
   have htop':∀ w1,Calls Tryz.prog 73 #[z] w1 fun e w'=>∃ sl,e=.returned (.agg #[.int .i64 k,.int .i64 n,.string s,sl])/\Kids w' sl L/\Below w1.heap.size w1 w':=by rw [<- hz,<- hL];exact htop
   rw [hz] at hcell hzf
   have hLH:Hid (ps.map (exV e)=L):=hL
   clear hL hz htop hm hcs hC hM hS hcl1 hst hsum hS'
   go_wp2
   go_region_law (first
     | (refine za6 _ (by rfl) (.tmp 20) (.tmp 26) 144 144 (by rfl) w.heap.size 87 i0 .nilIface 1 16 Tryz.underlying144 hi hz0 hz1 hz2 rfl _ st'.length _ (by rfl) ho1 _ L.length L (by rfl) (hk1.src hti.out) L.length (.inr (by omega)) zn2 (by unfold maxLen;omega) (zn5 hq b1'.size) ?_;intro v4 w4 ho4 hg4 _)
     | (go_simp;refine (htop' _).mono ?_;rintro e w1 ⟨sl,rfl,hk1,b1⟩;obtain ⟨a1,rfl⟩:=hk1.form;have b1':Below wr.heap.size wr w1:=((Below.refl _ wr).drew).trans b1;have ho1:=hS2 w1 b1'))
   have bel4:Below w.heap.size w w4:=(hb.trans (b1'.mono hq)).grown hg4 (zn5 hq b1'.size) (fun k hk=>(World.ownsRow.lt ho1 k hk).1)
   have hS4:Stk w4 w.heap.size v4 (st'++zO ps):=Stk.push (n:=st'.length+L.length) (by rw [hLl.out]) (by rw [hLH.out];exact ho4)
   clear ho4 hg4 ho1 hk1 b1 b1' hS2 hcell htop' hb
   go_wp2
   go_roundw
   case rel=>exact ⟨c+1,st'++zO ps,by go_num,by omega,hS4,hNC,hNM,bel4⟩
   case measure=>simp [RowKit.intOf];omega
end Go.Proofs.YtlkdaldfklaicaaGreatDoor
namespace Go.Proofs.YtlkdaldfklaicaaGreatDoor
open Go.RowKit Go.Lib
set_option linter.unusedSimpArgs false
set_option linter.unusedVariables false
attribute [local go_sem ↓] Go.wp_at_zero Go.wp_at_succ
def zlr:Prop:=∀ (d:Nat) (t:T d) (w:World),Cl d t->cnt d t<=100000->zb6 1000 d t=true->Calls Tryz.prog 95 #[exV d t] w fun r w'=>r=.returned (.bool (fmC d t))/\Below w.heap.size w w'
theorem znK {a b c:World}(h:Below a.heap.size a b) (k:Below b.heap.size b c):Below a.heap.size a c:=h.trans (k.mono h.size)
theorem zjc {d:Nat}{t:T d}(h:0<=sml d t 0 200):cnt (d+1) (cln d t)<=1000/\zb6 1000 (d+1) (cln d t)=true:=by
 obtain ⟨h1,h2⟩:=zhF d t 0 200 h
 have h3:=zih d t
 exact ⟨by omega,zgm 1000 d t h2⟩
theorem zik:∀ (d:Nat) (t:T d),ndC d t=min (cnt d t) 41
 | 0,t=>Empty.elim t
 | d+1,t=>by
  obtain ⟨k,n,s,ps,rfl⟩:=T.open t
  rw [zmH,zau]
  have:∀ l:List (T d),min ((l.map (ndC d)).sum+1) 41=min ((l.map (cnt d)).sum+1) 41:=fun l=>by
   induction l with
   | nil=>rfl
   | cons p r ih=>
    have:=zik d p
    simp only [List.map_cons,List.sum_cons]
    omega
  exact this ps
theorem zcU {m:Nat}:∀ (l:List Nat) (a:Nat),l.foldl max a<=m↔a<=m/\∀ x∈l,x<=m
 | [],a=>by simp
 | x :: r,a=>by
  rw [List.foldl_cons,zcU r,Nat.max_le]
  simp only [List.mem_cons,forall_eq_or_imp,and_assoc]
theorem znC {d:Nat}{k n:Int}{s:ByteArray}{ps:List (T d)}(h:Cl (d+1) (mkT k n s ps)):sdC (d+1) (mkT k n s ps)=(rtC k n s && ps.all (sdC d)):=by
 rw [zjU]
 unfold rtC
 rcases h with ⟨h1,h2,h3⟩|⟨h1,h2,h3⟩|⟨h1,h2,h3,p,h4,h5⟩|⟨h1,h2,p,q,h3,h4,h5⟩|⟨h1,h2,h3,h4⟩
 ·simp only at h1 h3;subst h1 h3;simp
 ·simp only at h1 h3;subst h1 h3;simp
 ·simp only at h1 h4;rcases h1 with rfl|rfl<;>simp
 ·simp only at h1 h3;subst h1 h3;simp
 ·simp only at h1 h4;subst h1 h4;simp
theorem zg9 {d:Nat}{k n:Int}{s:ByteArray}{ps:List (T d)}(h:Cl (d+1) (mkT k n s ps)) (r:Nat) :
  (decide (dpC (d+1) (mkT k n s ps)<=r+1) && sdC (d+1) (mkT k n s ps))=(rtC k n s && ps.all (fun p=>decide (dpC d p<=r) && sdC d p)):=by
 rw [znC h,zkT]
 have e1:decide ((ps.map (dpC d)).foldl max 0+1<=r+1)=ps.all (fun p=>decide (dpC d p<=r)):=by
  rw [Bool.eq_iff_iff]
  simp only [decide_eq_true_eq,List.all_eq_true]
  rw [Nat.add_le_add_iff_right,zcU]
  simp
 have e2:ps.all (fun p=>decide (dpC d p<=r) && sdC d p)=(ps.all (fun p=>decide (dpC d p<=r)) && ps.all (sdC d)):=by
  induction ps with
  | nil=>rfl
  | cons p q ih=>
   simp only [List.all_cons]
   have:q.all (fun p=>decide (dpC d p<=r) && sdC d p)=(q.all (fun p=>decide (dpC d p<=r)) && q.all (sdC d)):=by
    clear ih e1 h
    induction q with
    | nil=>rfl
    | cons a b ih=>simp only [List.all_cons];rw [ih];cases decide (dpC d a<=r)<;>cases sdC d a<;>simp
   rw [this]
   cases decide (dpC d p<=r)<;>cases sdC d p<;>simp
 rw [e1,e2]
 cases rtC k n s<;>simp
theorem zlG (d:Nat) (t:T d):1<=dpC d t:=by
 match d,t with
 | 0,t=>exact Empty.elim t
 | d+1,t=>
  obtain ⟨k,n,s,ps,rfl⟩:=T.open t
  rw [zkT];omega
def zhq (d:Nat):Prop:=∀ (t:T d) (r:Nat) (w:World),Cl d t->zb6 1000 d t=true->r<=12->
 Calls Tryz.prog 102 #[exV d t,.int .i64 (r:Int)] w fun e w'=>e=.returned (.bool (decide (dpC d t<=r) && sdC d t))/\Below w.heap.size w w'
theorem zhN (d:Nat) (IH:zhq d):zhq (d+1):=by
 intro t r w hc hs hr
 obtain ⟨k,n,s,ps,rfl,htop⟩:=zfV hc
 rw [zaH] at hs
 simp only [Bool.and_eq_true,decide_eq_true_eq,List.all_eq_true] at hs
 obtain ⟨hs1,hs2⟩:=hs
 obtain ⟨x,hx⟩:∃ x,exV (d+1) (mkT k n s ps)=x:=⟨_,rfl⟩
 rw [hx] at htop ⊢
 have htop':∀ w1,Calls Tryz.prog 73 #[x] w1 fun e w'=>∃ sl,e=.returned (.agg #[.int .i64 k,.int .i64 n,.string s,sl])/\Kids w' sl (ps.map (exV d))/\Below w1.heap.size w1 w':=htop
 cases r with
 | zero=>
  have e1:(((0:Nat):Int) < 1):=by omega
  have hd:=zlG (d+1) (mkT k n s ps)
  rw [decide_eq_false (by omega),Bool.false_and]
  go_enter Tryz.func102,Tryz.ntmps102
  go_wp2_with (first
   | (go_at_call 73;refine (htop' _).mono ?_;rintro e w1 ⟨sl,rfl,hk1,b1⟩;obtain ⟨a1,rfl⟩:=hk1.form))
  go_ret
  exact ⟨rfl,b1.alloc b1.size _⟩
 | succ r=>
 rw [zg9 hc]
 obtain ⟨L,hL⟩:∃ L,ps.map (exV d)=L:=⟨_,rfl⟩
 have hkid:Hid (∀ (j:Nat) (h:j < L.length) (h':j < ps.length) (w1:World),Calls Tryz.prog 102 #[L[j],.int .i64 (r:Int)] w1 fun e w'=>e=.returned (.bool (decide (dpC d ps[j]<=r) && sdC d ps[j]))/\Below w1.heap.size w1 w'):=
  fun j h h' w1=>by
   have:=IH ps[j] r w1 ((Cl.parts hc).2 _ (List.getElem_mem h')) (hs2 _ (List.getElem_mem h')) (by omega)
   subst hL
   simpa using this
 have hrt:=fun a m w1=>zfy k n s a m hs1 w1
 have hpl:L.length<=2:=by rw [<- hL];simpa using (Cl.parts hc).1
 have hLl:Hid (L.length=ps.length):=by rw [<- hL];show _=_;simp
 have i0:¬ ((r:Int)+1 < 1):=by omega
 have i1:(((r+1:Nat):Int))=(r:Int)+1:=by omega
 rw [i1]
 obtain ⟨g,hg⟩:∃ g,rtC k n s=g:=⟨_,rfl⟩
 simp only [hg] at hrt
 simp only [hL] at htop'
 rw [hg]
 clear hg i1 htop hs1 hs2 hc hx hL
 cases g with
 | false=>
  rw [Bool.false_and]
  go_enter Tryz.func102,Tryz.ntmps102
  go_wp2_with (first
   | (go_at_call 73;refine (htop' _).mono ?_;rintro e w1 ⟨sl,rfl,hk1,b1⟩;obtain ⟨a1,rfl⟩:=hk1.form;have b2:=b1.alloc b1.size (.cells #[.int .i64 k,.int .i64 n,.string s,.slice a1 L.length L.length] 146))
   | (go_at_call 110;refine (hrt _ _ _).mono ?_;rintro e w2 ⟨rfl,b3⟩))
  go_ret
  exact ⟨rfl,b2.trans (b3.mono b2.size)⟩
 | true=>
  rw [Bool.true_and]
  obtain ⟨V,hV⟩:∃ V,ps.all (fun p=>decide (dpC d p<=r) && sdC d p)=V:=⟨_,rfl⟩
  rw [hV]
  have HV:Hid (ps.all (fun p=>decide (dpC d p<=r) && sdC d p)=V):=hV
  clear hV
  go_enter Tryz.func102,Tryz.ntmps102
  go_wp2_with (first
   | (go_at_call 73;refine (htop' _).mono ?_;rintro e w1 ⟨sl,rfl,hk1,b1⟩;obtain ⟨a1,rfl⟩:=hk1.form;have b2:=b1.alloc b1.size (.cells #[.int .i64 k,.int .i64 n,.string s,.slice a1 L.length L.length] 146))
   | (go_at_call 110;refine (hrt _ _ _).mono ?_;rintro e w2 ⟨rfl,b3⟩;obtain ⟨y0,y1,y2,y3⟩:=(At4.new w1 (.int .i64 k) (.int .i64 n) (.string s) (.slice a1 L.length L.length) 146).keepB b3 (by simp)))
  have b4:=b2.trans (b3.mono b2.size)
  have hk2:=(hk1.below (zn3.alloc zn2 _) zn2).below b3 zn2
  clear hrt htop' hk1 b1 b2 b3
  go_loopw [20] (fun i wr=>∃ j:Nat,j<=L.length/\i=.int .i64 (j:Int)/\Hid ((ps.take j).all (fun p=>decide (dpC d p<=r) && sdC d p)=true)/\Hid (Kids wr (.slice a1 L.length L.length) L)/\Below w.heap.size w wr) (fun i _=>L.length - (RowKit.intOf i).toNat)
  case atStart=>exact ⟨0,Nat.zero_le _,rfl,rfl,hk2,b4⟩
  case round=>
   obtain ⟨j,hj,rfl,hA,hK,hb⟩:=hrel
   have i2:(0:Int)<=(j:Int):=by omega
   have hll:=hLl.out
   by_cases hlt:j < L.length
   ·have i3:(j:Int) < (L.length:Int):=by omega
    obtain ⟨gg,hgg,hcell⟩:=hK.out.at hlt
    have hc2:=hkid.out j hlt (by omega)
    have h1:=zeL (fun p=>decide (dpC d p<=r) && sdC d p) ps j (by omega) hA.out
    have h2:=zlR (fun p=>decide (dpC d p<=r) && sdC d p) ps j (by omega)
    obtain ⟨z,hz⟩:∃ z,L[j]=z:=⟨_,rfl⟩
    obtain ⟨q,hq⟩:∃ q,(decide (dpC d (ps[j]'(by omega))<=r) && sdC d (ps[j]'(by omega)))=q:=⟨_,rfl⟩
    rw [hz] at hcell
    simp only [hz,hq] at hc2
    simp only [hq] at h1 h2
    subst hgg
    have hK2:=fun w3 (b:Below wr.heap.size wr w3)=>hK.out.below b zn2
    have hS:Hid (_->_):=h1
    have hN:Hid (_->_):=h2
    clear hz hq h1 h2 hll hK hA
    cases q with
    | false=>
     have hF:V=false:=by rw [<- HV.out];exact hN.out rfl
     subst hF
     go_wp2_with (first
      | (go_at_call 102;refine (hc2 _).mono ?_;rintro e w3 ⟨rfl,b5⟩))
     go_ret
     exact ⟨rfl,hb.trans (b5.mono hb.size)⟩
    | true=>
     have hT:=hS.out rfl
     have HT:Hid ((ps.take (j+1)).all (fun p=>decide (dpC d p<=r) && sdC d p)=true):=hT
     clear hT hS hN
     go_wp2_with (first
      | (go_at_call 102;refine (hc2 _).mono ?_;rintro e w3 ⟨rfl,b5⟩))
     have hK3:Hid _:=hK2 _ b5
     have b6:=hb.trans (b5.mono hb.size)
     go_roundw
     case rel=>exact ⟨j+1,hlt,by go_num,HT,hK3,b6⟩
     case measure=>simp [RowKit.intOf];omega
   ·have i3:¬ (j:Int) < (L.length:Int):=by omega
    have hF:V=true:=by
     rw [<- HV.out,<- hA.out,List.take_of_length_le (by omega)]
    subst hF
    clear hll
    go_wp2
    go_ret
    exact ⟨rfl,hb⟩
theorem ze7:∀ (d:Nat),zhq d
 | 0=>fun t=>Empty.elim t
 | d+1=>zhN d (ze7 d)
theorem zhG (d:Nat) (t:T d) (w:World) (hc:Cl d t) (hn:cnt d t<=100000):Calls Tryz.prog 75 #[exV d t] w fun r w'=>r=.returned (.int .i64 (ndC d t:Int))/\Below w.heap.size w w':=by
 rw [zik]
 exact zeD d t w hc hn
theorem zir:zlr:=by
 intro d t w hc hn hs
 have h1:=zhG d t w hc hn
 have h2:=fun w1=>ze7 d t 12 w1 hc hs zn2
 unfold fmC
 obtain ⟨N,hN⟩:∃ N,ndC d t=N:=⟨_,rfl⟩
 obtain ⟨q,hq⟩:∃ q,(decide (dpC d t<=12) && sdC d t)=q:=⟨_,rfl⟩
 obtain ⟨x,hx⟩:∃ x,exV d t=x:=⟨_,rfl⟩
 rw [Bool.and_assoc,hN,hq]
 rw [hN] at h1
 simp only [hq] at h2
 rw [hx] at h1 ⊢
 simp only [hx] at h2
 clear hN hq hx hc hn hs
 by_cases h40:N<=40
 ·have e1:(N:Int)<=40:=by omega
  rw [decide_eq_true h40,Bool.true_and]
  go_enter Tryz.func95,Tryz.ntmps95
  go_wp2_with (first
   | (go_at_call 75;refine h1.mono ?_;rintro e w1 ⟨rfl,b1⟩)
   | (go_at_call 102;refine (h2 _).mono ?_;rintro e w2 ⟨rfl,b2⟩))
  go_ret
  exact ⟨rfl,znK b1 b2⟩
 ·have e1:¬ (N:Int)<=40:=by omega
  rw [decide_eq_false h40,Bool.false_and]
  go_enter Tryz.func95,Tryz.ntmps95
  go_wp2_with (first
   | (go_at_call 75;refine h1.mono ?_;rintro e w1 ⟨rfl,b1⟩))
  go_ret
  exact ⟨rfl,b1⟩
theorem zjG (w:World):Rdr (w.alloc (.cells #[.slice none 0 0,.slice none 0 0,.int .i64 0,.bool false] 176)) w.heap.size ⟨[],[],0,false⟩ (.slice none 0 0) (.slice none 0 0):=
 ⟨B4.new w _ _ _ _ _ _ rfl,World.ownsRow_nil _ _ _ _,World.ownsRow_nil _ _ _ _,fun g hg=>by simp [Value.ownBlock] at hg⟩
def zcS (r:Option Sx × Nat):Sx × Nat × Int:=match r.1 with|some x=>if fmX x=true then (x,r.2,0) else (noX,0,13)|none=>(noX,r.2,12)
theorem zgj {ws:List Wd}(h:∀ w∈ws,OneW w.1 w.2.1):zaA (ws.map tkW)=zcS (rnY (zL (zz 0) zX) (ws.map tkW) ⟨[],[],0,false⟩ 0)/\
  ∀ x n,rnY (zL (zz 0) zX) (ws.map tkW) ⟨[],[],0,false⟩ 0=(some x,n)->zkP x/\zb5 x<=n:=by
 have hy:=zlo (nb:=zz 0) (rsv:=zX) (l:=ws.map tkW) (zkF h) (f:=7*(ws.map tkW).length+6) (by omega)
 have hf:zgr _ 0 (rdC (ws.map tkW)):=zjh h _ 1 0 (by omega) (by omega)
 have e:psr (zz 0) zX (ws.map tkW) (7*(ws.map tkW).length+6) 1 0 (-1)=rdC (ws.map tkW):=rfl
 rw [e] at hy
 obtain ⟨O,hO⟩:∃ O,rnY (zL (zz 0) zX) (ws.map tkW) ⟨[],[],0,false⟩ 0=O:=⟨_,rfl⟩
 rw [hO] at hy ⊢
 unfold zaA
 rcases hf with ⟨h1,h2⟩|h1
 ·have hlt:(rdC (ws.map tkW)).2.2 < 0:=by rw [h1];decide
  rw [if_pos hlt] at hy
  subst hy
  rw [if_neg (by omega)]
  refine ⟨rfl,fun x n hx=>?_⟩
  simp only [Prod.mk.injEq,Option.some.injEq] at hx
  obtain ⟨rfl,rfl⟩:=hx
  exact ⟨h2.1,by have:=h2.2;omega⟩
 ·rw [if_neg (by omega)] at hy
  subst hy
  rw [if_pos h1]
  exact ⟨rfl,fun x n hx=>by simp at hx⟩
theorem zlf (ws:List Wd) (i:Nat) (h:i < ws.length):(zcr ws)[i*4]?=some (.int .i64 ((ws[i]).1:Int))/\(zcr ws)[i*4+1]?=some (.string (txt (ws[i]).2.1))/\(zcr ws)[i*4+2]?=some (.int .i64 (ws[i]).2.2.1)/\(zcr ws)[i*4+3]?=some (.int .i64 (ws[i]).2.2.2):=by
 induction ws generalizing i with
 | nil=>simp at h
 | cons x t ih=>
  cases i with
  | zero=>exact ⟨rfl,rfl,rfl,rfl⟩
  | succ k=>
   have hk:=ih k (by simpa using h)
   have e:∀ j,(zcr (x :: t))[(k+1)*4+j]?=(zcr t)[k*4+j]?:=fun j=>by
    show (zeE x++zcr t)[(k+1)*4+j]?=_
    rw [List.getElem?_append_right (by simp [zeE];omega)]
    congr 1
    simp [zeE];omega
   exact ⟨(e 0).trans hk.1,(e 1).trans hk.2.1,(e 2).trans hk.2.2.1,(e 3).trans hk.2.2.2⟩
theorem zmq {w:World}{base e:Nat}{v:Value}{ws:List Wd}(h:OwnW w base e v ws):∃ a cap,v=.slice a ws.length cap/\ws.length<=cap/\cap<=maxLen/\∀ (i:Nat) (hi:i < ws.length),∃ g,a=some ⟨g,0,none⟩/\g < w.heap.size/\w.cell? ⟨g,i*4,none⟩=some (.int .i64 ((ws[i]).1:Int))/\w.cell? ⟨g,i*4+1,none⟩=some (.string (txt (ws[i]).2.1))/\w.cell? ⟨g,i*4+2,none⟩=some (.int .i64 (ws[i]).2.2.1)/\w.cell? ⟨g,i*4+3,none⟩=some (.int .i64 (ws[i]).2.2.2):=by
 have hc:=fun g=>World.ownsRow.cells h (g:=g)
 rcases h.2 with ⟨h1,h2⟩|⟨g,cap,cur,rfl,hb,hg,h3,h4,_⟩
 ·exact ⟨none,0,by rw [h1,h2],by omega,by simp [maxLen],fun i hi=>by omega⟩
 ·refine ⟨_,_,rfl,h3,h4,fun i hi=>⟨g,rfl,(Array.getElem?_eq_some_iff.1 hg).1,?_⟩⟩
  obtain ⟨e0,e1,e2,e3⟩:=zlf ws i hi
  have c0:=hc g rfl _ _ e0
  have c1:=hc g rfl _ _ e1
  have c2:=hc g rfl _ _ e2
  have c3:=hc g rfl _ _ e3
  rw [zcd] at c0 c1 c2 c3
  exact ⟨c0,c1,c2,c3⟩
theorem zk4 {w:World}{a:Option Addr}{cap:Nat}{ws:List Wd}(q1:ws.length<=cap) (q2:cap<=maxLen) (hrd:∀ (i:Nat) (hi:i < ws.length),∃ g off,a=some ⟨g,off,none⟩/\g < w.heap.size/\w.cell? ⟨g,off+i*4,none⟩=some (.int .i64 ((ws[i]).1:Int))/\w.cell? ⟨g,off+i*4+1,none⟩=some (.string (txt (ws[i]).2.1))/\w.cell? ⟨g,off+i*4+2,none⟩=some (.int .i64 (ws[i]).2.2.1)/\w.cell? ⟨g,off+i*4+3,none⟩=some (.int .i64 (ws[i]).2.2.2)) (h1:∀ x∈ws,OneW x.1 x.2.1) (hl:ws.length<=3000) :
  Calls Tryz.prog 88 #[.slice a ws.length cap] w fun e w'=>e=.returned (.tuple #[exX (zaA (ws.map tkW)).1,.int .i64 ((zaA (ws.map tkW)).2.1:Int),.int .i64 (zaA (ws.map tkW)).2.2])/\Below w.heap.size w w':=by
 obtain ⟨ht1,ht2⟩:=zgj h1
 rw [ht1]
 obtain ⟨OUT,hO⟩:∃ OUT,rnY (zL (zz 0) zX) (ws.map tkW) ⟨[],[],0,false⟩ 0=OUT:=⟨_,rfl⟩
 rw [hO] at ht2 ⊢
 have hO0:Hid (rnY (zL (zz 0) zX) (ws.map tkW) ⟨[],[],0,false⟩ 0=OUT):=hO
 have HT:Hid (∀ x n,OUT=(some x,n)->zkP x/\zb5 x<=n):=ht2
 have HR:Hid (∀ (i:Nat) (hi:i < ws.length),∃ g off,a=some ⟨g,off,none⟩/\g < w.heap.size/\w.cell? ⟨g,off+i*4,none⟩=some (.int .i64 ((ws[i]).1:Int))/\w.cell? ⟨g,off+i*4+1,none⟩=some (.string (txt (ws[i]).2.1))/\w.cell? ⟨g,off+i*4+2,none⟩=some (.int .i64 (ws[i]).2.2.1)/\w.cell? ⟨g,off+i*4+3,none⟩=some (.int .i64 (ws[i]).2.2.2)):=hrd
 have H1:Hid (∀ x∈ws,OneW x.1 x.2.1):=h1
 clear hrd h1 ht1 ht2 hO
 have hs:=zjG w
 have hb0:Below w.heap.size w (w.alloc (.cells #[.slice none 0 0,.slice none 0 0,.int .i64 0,.bool false] 176)):=zn3.alloc zn2 _
 go_enter Tryz.func88,Tryz.ntmps88
 go_wp2
 go_loopw [6] (fun v wr=>∃ (n:Nat) (y:Yd) (vv ww:Value),v=.int .i64 (n:Int)/\n<=ws.length/\Rdr wr w.heap.size y vv ww/\zgH y n/\Hid (rnY (zL (zz 0) zX) (ws.map tkW) y n=OUT)/\Below w.heap.size w wr) (fun v _=>ws.length - (RowKit.intOf v).toNat)
 case atStart=>exact ⟨0,_,_,_,rfl,Nat.zero_le _,hs,zjm,hO0,hb0⟩
 case round=>
  obtain ⟨n,y,vv,ww,rfl,hn,hr,hi,ho,hb⟩:=hrel
  have i2:(0:Int)<=(n:Int):=by omega
  clear hs hb0 hO0
  by_cases hlt:n < ws.length
  ·have i1:(n:Int) < (ws.length:Int):=by omega
   obtain ⟨g,off,rfl,hg,c0,c1,c2,c3⟩:=HR.out n hlt
   have h1n:=H1.out ws[n] (List.getElem_mem hlt)
   have hget:(ws.map tkW)[n]?=some (tkW ws[n]):=by rw [List.getElem?_map,List.getElem?_eq_getElem hlt];rfl
   have d0:=(hb.cell (p:=⟨g,off+n*4,none⟩) hg).trans c0
   have d1:=(hb.cell (p:=⟨g,off+n*4+1,none⟩) hg).trans c1
   have d2:=(hb.cell (p:=⟨g,off+n*4+2,none⟩) hg).trans c2
   have d3:=(hb.cell (p:=⟨g,off+n*4+3,none⟩) hg).trans c3
   obtain ⟨⟨K,seg,ln,co⟩,hx⟩:∃ x,ws[n]=x:=⟨_,rfl⟩
   rw [hx] at h1n hget d0 d1 d2 d3
   simp only [tkW] at h1n hget d0 d1 d2 d3
   have hT:=zjv hr hi (by omega) h1n ln co
   have hstep:=ho.out
   rw [zcG hget] at hstep
   have hinv:=zln (leaf:=zL (zz 0) zX) hi (K,byt seg)
   obtain ⟨r,hrr⟩:∃ r,stp (zL (zz 0) zX) y (K,byt seg)=r:=⟨_,rfl⟩
   simp only [hrr] at hT hstep hinv
   obtain ⟨y1,b1⟩:=r
   obtain ⟨tx,htx⟩:∃ tx,txt seg=tx:=⟨_,rfl⟩
   unfold wdV at hT
   rw [htx] at hT d1
   clear c0 c1 c2 c3 hx hrr htx hr hi ho h1n hget
   simp only at hT hstep hinv
   cases b1 with
   | true=>
    rw [if_pos rfl] at hstep
    have hN:Hid (rnY (zL (zz 0) zX) (ws.map tkW) y1 (n+1)=OUT):=hstep
    go_wp2_with (first
     | (go_at_call 92;refine hT.mono ?_;rintro e w1 ⟨rfl,⟨vv1,ww1,hr1⟩,b1⟩))
    go_roundw
    case rel=>exact ⟨n+1,y1,vv1,ww1,by go_num,hlt,hr1,hinv,hN,hb.trans b1⟩
    case measure=>simp [RowKit.intOf];omega
   | false=>
    rw [if_neg Bool.false_ne_true] at hstep
    have hS:Hid (zaI y1 n=OUT):=hstep
    obtain ⟨V,W,o,b⟩:=y1
    have hQ:=hS.out
    have hbk:=zhb W
    have hio:=hinv.o
    have hiw:=hinv.w
    simp only at hio hiw
    unfold zaI at hQ
    simp only at hQ
    have hFm:=fun (x:Sx) (hx:zkP x/\zb5 x<=n) w1=>zir x.1 x.2 w1 hx.1.cl (by have:=hx.2;show cnt x.1 x.2<=100000;unfold zb5 at this;omega) hx.1.sh
    by_cases hq:b=true/\o=0
    ·rw [if_pos hq] at hQ
     obtain ⟨rfl,rfl⟩:=hq
     have hiv:V.length=zbg W+1:=hinv.v
     obtain ⟨x,hx⟩:=zkA hiv hio.symm
     rw [hx] at hQ
     have hfine:=HT.out x n hQ.symm
     have hFx:=hFm x hfine
     have hE:=fun w2 vv2 ww2 (h2:Rdr w2 w.heap.size ⟨V,W,0,true⟩ vv2 ww2)=>ziq h2 hiv (by omega) hx
     have hMx:=fun w2 vv2 ww2 (h2:Rdr w2 w.heap.size ⟨V,W,0,true⟩ vv2 ww2)=>zco h2 (by show (0:Nat)<=4000;omega)
     simp only [decide_true,Bool.and_true] at hMx
     have hres:zcS OUT=if fmX x=true then (x,n,0) else (noX,0,13):=by rw [<- hQ];rfl
     obtain ⟨fb,hfb⟩:∃ fb,fmC x.1 x.2=fb:=⟨_,rfl⟩
     have hfb':fmX x=fb:=hfb
     rw [hfb'] at hres
     simp only [hfb] at hFx
     have hFx:∀ w1,Calls Tryz.prog 95 #[exX x] w1 fun r w'=>r=.returned (.bool fb)/\Below w1.heap.size w1 w':=hFx
     have hxf:=zY x
     obtain ⟨xv,hxv⟩:∃ xv,exX x=xv:=⟨_,rfl⟩
     rw [hxv] at hxf
     simp only [hxv] at hFx hE
     clear hfb hfb' hfine hFm hQ hx hiv hio hiw hbk
     cases fb with
     | true=>
      rw [if_pos rfl] at hres
      have HX:Hid (exX x=xv):=hxv
      have HRS:Hid (zcS OUT=(x,n,0)):=hres
      clear hres hxv
      go_wp2_with (first
       | (go_at_call 92;refine hT.mono ?_;rintro e w1 ⟨rfl,⟨vv1,ww1,hr1⟩,b1⟩)
       | (go_at_call 93;refine (hMx _ _ _ hr1).mono ?_;rintro e w2 ⟨rfl,b2⟩;have hr2:=hr1.on b2;have hb2:=(hb.trans b1).trans (b2.mono (hb.trans b1).size))
       | (go_at_call 94;refine (hE _ _ _ hr2).mono ?_;rintro e w3 ⟨rfl,b3⟩;have hb3:=hb2.trans b3)
       | (go_at_call 95;refine (hFx _).mono ?_;rintro e w4 ⟨rfl,b4⟩;have hb4:=hb3.trans (b4.mono hb3.size)))
      go_ret3
      refine ⟨?_,hb4⟩
      rw [HRS.out]
      show _=Ending.returned (.tuple #[exX x,.int .i64 (n:Int),.int .i64 0])
      rw [HX.out];rfl
     | false=>
      rw [if_neg Bool.false_ne_true] at hres
      have HRS:Hid (zcS OUT=(noX,0,13)):=hres
      clear hres hxv
      go_wp2_with (first
       | (go_at_call 92;refine hT.mono ?_;rintro e w1 ⟨rfl,⟨vv1,ww1,hr1⟩,b1⟩)
       | (go_at_call 93;refine (hMx _ _ _ hr1).mono ?_;rintro e w2 ⟨rfl,b2⟩;have hr2:=hr1.on b2;have hb2:=(hb.trans b1).trans (b2.mono (hb.trans b1).size))
       | (go_at_call 94;refine (hE _ _ _ hr2).mono ?_;rintro e w3 ⟨rfl,b3⟩;have hb3:=hb2.trans b3)
       | (go_at_call 95;refine (hFx _).mono ?_;rintro e w4 ⟨rfl,b4⟩;have hb4:=hb3.trans (b4.mono hb3.size)))
      go_ret3
      exact ⟨by rw [HRS.out];rfl,hb4⟩
    ·rw [if_neg hq] at hQ
     have hbo:(b && decide (o=0))=false:=by
      cases b with
      | false=>rfl
      | true=>exact decide_eq_false (fun e=>hq ⟨rfl,e⟩)
     have hMx:=fun w2 vv2 ww2 (h2:Rdr w2 w.heap.size ⟨V,W,o,b⟩ vv2 ww2)=>zco h2 (by show o<=4000;omega)
     simp only [hbo] at hMx
     have HRS:Hid (zcS OUT=(noX,n,12)):=by show _=_;rw [<- hQ];rfl
     clear hbo hq hFm hQ hio hiw hbk
     go_wp2_with (first
      | (go_at_call 92;refine hT.mono ?_;rintro e w1 ⟨rfl,⟨vv1,ww1,hr1⟩,b1⟩)
      | (go_at_call 93;refine (hMx _ _ _ hr1).mono ?_;rintro e w2 ⟨rfl,b2⟩;have hb2:=(hb.trans b1).trans (b2.mono (hb.trans b1).size)))
     go_ret3
     exact ⟨by rw [HRS.out];rfl,hb2⟩
  ·have i1:¬ (n:Int) < (ws.length:Int):=by omega
   have hstep:=ho.out
   rw [zbW (by rw [List.getElem?_eq_none_iff,List.length_map];omega)] at hstep
   have hS:Hid (zaI y n=OUT):=hstep
   clear ho hstep
   obtain ⟨V,W,o,b⟩:=y
   have hQ:=hS.out
   have hbk:=zhb W
   have hio:=hi.o
   have hiw:=hi.w
   simp only at hio hiw
   unfold zaI at hQ
   simp only at hQ
   have hFm:=fun (x:Sx) (hx:zkP x/\zb5 x<=n) w1=>zir x.1 x.2 w1 hx.1.cl (by have:=hx.2;show cnt x.1 x.2<=100000;unfold zb5 at this;omega) hx.1.sh
   by_cases hq:b=true/\o=0
   ·rw [if_pos hq] at hQ
    obtain ⟨rfl,rfl⟩:=hq
    have hiv:V.length=zbg W+1:=hi.v
    obtain ⟨x,hx⟩:=zkA hiv hio.symm
    rw [hx] at hQ
    have hfine:=HT.out x n hQ.symm
    have hFx:=hFm x hfine
    have hE:=fun w2 vv2 ww2 (h2:Rdr w2 w.heap.size ⟨V,W,0,true⟩ vv2 ww2)=>ziq h2 hiv (by omega) hx
    have hMx:=fun w2 vv2 ww2 (h2:Rdr w2 w.heap.size ⟨V,W,0,true⟩ vv2 ww2)=>zco h2 (by show (0:Nat)<=4000;omega)
    simp only [decide_true,Bool.and_true] at hMx
    have hres:zcS OUT=if fmX x=true then (x,n,0) else (noX,0,13):=by rw [<- hQ];rfl
    obtain ⟨fb,hfb⟩:∃ fb,fmC x.1 x.2=fb:=⟨_,rfl⟩
    have hfb':fmX x=fb:=hfb
    rw [hfb'] at hres
    simp only [hfb] at hFx
    have hFx:∀ w1,Calls Tryz.prog 95 #[exX x] w1 fun r w'=>r=.returned (.bool fb)/\Below w1.heap.size w1 w':=hFx
    have hxf:=zY x
    obtain ⟨xv,hxv⟩:∃ xv,exX x=xv:=⟨_,rfl⟩
    rw [hxv] at hxf
    simp only [hxv] at hFx hE
    clear hfb hfb' hfine hFm hQ hx hiv hio hiw hbk
    cases fb with
    | true=>
     rw [if_pos rfl] at hres
     have HX:Hid (exX x=xv):=hxv
     have HRS:Hid (zcS OUT=(x,n,0)):=hres
     clear hres hxv
     go_wp2_with (first
      | (go_at_call 93;refine (hMx _ _ _ hr).mono ?_;rintro e w2 ⟨rfl,b2⟩;have hr2:=hr.on b2;have hb2:=hb.trans (b2.mono hb.size))
      | (go_at_call 94;refine (hE _ _ _ hr2).mono ?_;rintro e w3 ⟨rfl,b3⟩;have hb3:=hb2.trans b3)
      | (go_at_call 95;refine (hFx _).mono ?_;rintro e w4 ⟨rfl,b4⟩;have hb4:=hb3.trans (b4.mono hb3.size)))
     go_ret3
     refine ⟨?_,hb4⟩
     rw [HRS.out]
     show _=Ending.returned (.tuple #[exX x,.int .i64 (n:Int),.int .i64 0])
     rw [HX.out];rfl
    | false=>
     rw [if_neg Bool.false_ne_true] at hres
     have HRS:Hid (zcS OUT=(noX,0,13)):=hres
     clear hres hxv
     go_wp2_with (first
      | (go_at_call 93;refine (hMx _ _ _ hr).mono ?_;rintro e w2 ⟨rfl,b2⟩;have hr2:=hr.on b2;have hb2:=hb.trans (b2.mono hb.size))
      | (go_at_call 94;refine (hE _ _ _ hr2).mono ?_;rintro e w3 ⟨rfl,b3⟩;have hb3:=hb2.trans b3)
      | (go_at_call 95;refine (hFx _).mono ?_;rintro e w4 ⟨rfl,b4⟩;have hb4:=hb3.trans (b4.mono hb3.size)))
     go_ret3
     exact ⟨by rw [HRS.out];rfl,hb4⟩
   ·rw [if_neg hq] at hQ
    have hbo:(b && decide (o=0))=false:=by
     cases b with
     | false=>rfl
     | true=>exact decide_eq_false (fun e=>hq ⟨rfl,e⟩)
    have hMx:=fun w2 vv2 ww2 (h2:Rdr w2 w.heap.size ⟨V,W,o,b⟩ vv2 ww2)=>zco h2 (by show o<=4000;omega)
    simp only [hbo] at hMx
    have HRS:Hid (zcS OUT=(noX,n,12)):=by show _=_;rw [<- hQ];rfl
    clear hbo hq hFm hQ hio hiw hbk
    go_wp2_with (first
     | (go_at_call 93;refine (hMx _ _ _ hr).mono ?_;rintro e w2 ⟨rfl,b2⟩;have hb2:=hb.trans (b2.mono hb.size)))
    go_ret3
    exact ⟨by rw [HRS.out];rfl,hb2⟩
theorem ze6 (y:Yd) (n:Nat):(zaI y n).2=n:=by unfold zaI;split<;>rfl
theorem zf8 (leaf:Tk->Option Sx):∀ (r:List Tk) (y:Yd) (n:Nat),(zlm leaf y r n).2<=n+r.length
 | [],y,n=>by show (zaI y n).2<=_;rw [ze6];omega
 | w :: r,y,n=>by
  unfold zlm
  split
  ·have:=zf8 leaf r (stp leaf y w).1 (n+1)
   rw [List.length_cons];omega
  ·rw [ze6];omega
theorem zma {ws:List Wd}(h:∀ w∈ws,OneW w.1 w.2.1):(zaA (ws.map tkW)).2.1<=ws.length:=by
 rw [(zgj h).1]
 have h1:=zf8 (zL (zz 0) zX) (ws.map tkW) ⟨[],[],0,false⟩ 0
 have h2:rnY (zL (zz 0) zX) (ws.map tkW) ⟨[],[],0,false⟩ 0=zlm (zL (zz 0) zX) ⟨[],[],0,false⟩ (ws.map tkW) 0:=rfl
 rw [<- h2,List.length_map] at h1
 generalize rnY (zL (zz 0) zX) (ws.map tkW) ⟨[],[],0,false⟩ 0=O at h1 ⊢
 obtain ⟨o,n⟩:=O
 unfold zcS
 cases o with
 | none=>simp only at h1 ⊢;omega
 | some x=>
  simp only at h1 ⊢
  split
  ·show n<=_;omega
  ·exact Nat.zero_le _
theorem zhD {l:List Tk}:(zaA l).2.2=0∨((zaA l).1=noX/\(zaA l).2.1=0/\(zaA l).2.2=13)∨((zaA l).1=noX/\(zaA l).2.2=12):=by
 unfold zaA
 split
 ·exact .inr (.inr ⟨rfl,rfl⟩)
 ·split
  ·exact .inl rfl
  ·exact .inr (.inl ⟨rfl,rfl,rfl⟩)
def OwnB {α:Type}(w:World) (base:Nat) (bad:Nat->Prop) (e k:Nat) (R:(Nat->Prop)->World->α->List Value->Prop) (v:Value) (l:List α):Prop:=
 ∃ qs:List (List Value),w.ownsRow base e k v l.length qs.flatten/\qs.length=l.length/\(∀ (i:Nat) (h:i < l.length) (h':i < qs.length),(qs[i]).length=k/\R (fun b=>base<=b/\v.ownBlock≠some b/\¬ bad b) w l[i] qs[i])/\∀ g,v.ownBlock=some g->¬ bad g
theorem zZ {α:Type}(w:World) (base:Nat) (bad:Nat->Prop) (e k:Nat) (R:(Nat->Prop)->World->α->List Value->Prop):OwnB w base bad e k R (.slice none 0 0) []:=⟨[],World.ownsRow_nil w base e k,rfl,fun i h=>absurd h (by simp),fun g hg=>by simp [Value.ownBlock] at hg⟩
theorem OwnB.keep {α:Type}{w w':World}{base e k:Nat}{bad bad':Nat->Prop}{R:(Nat->Prop)->World->α->List Value->Prop}{v:Value}{l:List α}(hR:Kp R) (h:OwnB w base bad e k R v l) (hk:∀ b,base<=b->¬ bad b->b < w.heap.size->w'.heap[b]?=w.heap[b]?/\¬ bad' b):OwnB w' base bad' e k R v l:=by
 obtain ⟨qs,ho,hl,hr,hg0⟩:=h
 refine ⟨qs,zaG ho (fun g hg=>?_),hl,fun i h h'=>⟨(hr i h h').1,hR (hr i h h').2 (fun b hb hlt=>⟨⟨hb.1,hb.2.1,(hk b hb.1 hb.2.2 hlt).2⟩,(hk b hb.1 hb.2.2 hlt).1⟩)⟩,fun g hg=>?_⟩
 ·obtain ⟨a,b⟩:=zC ho g hg
  exact (hk g a (hg0 g hg) b).1
 ·obtain ⟨a,b⟩:=zC ho g hg
  exact (hk g a (hg0 g hg) b).2
theorem OwnB.on {α:Type}{w w':World}{base e k:Nat}{bad:Nat->Prop}{R:(Nat->Prop)->World->α->List Value->Prop}{v:Value}{l:List α}(hR:Kp R) (h:OwnB w base bad e k R v l) (hb:Below w.heap.size w w'):OwnB w' base bad e k R v l:=h.keep hR (fun b _ hbad hlt=>⟨hb.block b hlt,hbad⟩)
theorem OwnB.fx {α:Type}{w w':World}{base e k X:Nat}{bad:Nat->Prop}{R:(Nat->Prop)->World->α->List Value->Prop}{v:Value}{l:List α}(hR:Kp R) (h:OwnB w base bad e k R v l) (hf:Fx X w w') (hX:X < base):OwnB w' base bad e k R v l:=
 h.keep hR (fun b hb hbad hlt=>⟨hf.block b hlt (fun e=>by have:b=X:=Option.some.inj e;omega),hbad⟩)
theorem OwnB.set {α:Type}{w:World}{base e k:Nat}{bad:Nat->Prop}{R:(Nat->Prop)->World->α->List Value->Prop}{v:Value}{l:List α}(hR:Kp R) (h:OwnB w base bad e k R v l) {X i:Nat}(hX:X < base) (u:Value):OwnB (w.setCell ⟨X,i,none⟩ u) base bad e k R v l:=
 h.keep hR (fun b hb hbad _=>⟨Below.heap_setCell _ _ _ _ (fun e=>by have:b=X:=e;omega),hbad⟩)
theorem OwnB.form {α:Type}{w:World}{base e k:Nat}{bad:Nat->Prop}{R:(Nat->Prop)->World->α->List Value->Prop}{v:Value}{l:List α}(h:OwnB w base bad e k R v l):∃ a cap,v=.slice a l.length cap/\l.length<=cap/\cap<=maxLen:=by
 obtain ⟨qs,ho,_⟩:=h
 rcases ho.2 with ⟨h1,h2⟩|⟨g,cap,cur,h1,_,_,h3,h4,_⟩
 ·exact ⟨none,0,by rw [h1,h2],by omega,by simp [maxLen]⟩
 ·exact ⟨_,_,h1,h3,h4⟩
theorem OwnB.lt {α:Type}{w:World}{base e k:Nat}{bad:Nat->Prop}{R:(Nat->Prop)->World->α->List Value->Prop}{v:Value}{l:List α}(h:OwnB w base bad e k R v l):∀ g,v.ownBlock=some g->base<=g/\g < w.heap.size:=by
 obtain ⟨qs,ho,_⟩:=h
 exact zC ho
theorem OwnB.other {α:Type}{w w':World}{base e k:Nat}{u u':Value}{R:(Nat->Prop)->World->α->List Value->Prop}{v:Value}{l:List α}(hR:Kp R) (h:OwnB w base (fun b=>u.ownBlock=some b) e k R v l) (hg:w.grownBy w' u.ownBlock) (hat:u'.ownBlock=u.ownBlock∨u'.ownBlock=some w.heap.size):OwnB w' base (fun b=>u'.ownBlock=some b) e k R v l:=
 h.keep hR (fun b hb hbad hlt=>⟨hg.block b hlt (fun e=>hbad e.symm),fun q=>by
  rcases hat with h|h
  ·exact hbad (h ▸ q)
  ·rw [h] at q;have:w.heap.size=b:=Option.some.inj q;omega⟩)
theorem OwnB.snoc {α:Type}{w w':World}{base e k lo n:Nat}{bad:Nat->Prop}{R:(Nat->Prop)->World->α->List Value->Prop}{v v':Value}{l:List α}{p:α}{cs:List Value}{qs:List (List Value)}(hR:Kp R) (hk:cs.length=k)
  (hn:l.length=n) (ho:w.ownsRow base e k v n qs.flatten) (hl:qs.length=l.length) (hr:∀ (i:Nat) (h:i < l.length) (h':i < qs.length),(qs[i]).length=k/\R (fun b=>base<=b/\v.ownBlock≠some b/\¬ bad b) w l[i] qs[i])
  (ho':w'.ownsRow base e k v' (n+1) (qs.flatten++cs)) (hg:w.grownBy w' v.ownBlock) (hat:v'.ownBlock=v.ownBlock∨v'.ownBlock=some w.heap.size)
  (hp:R (fun b=>lo<=b) w p cs) (hlo:base<=lo) (hv:∀ x,v.ownBlock=some x->x < lo) (hbad:∀ b,bad b->b < lo/\b < w.heap.size) (hvb:∀ g,v.ownBlock=some g->¬ bad g):OwnB w' base bad e k R v' (l++[p]):=by
 subst hn
 have key:∀ b,base<=b/\v.ownBlock≠some b/\¬ bad b->b < w.heap.size->(base<=b/\v'.ownBlock≠some b/\¬ bad b)/\w'.heap[b]?=w.heap[b]?:=fun b hb hlt=>by
  refine ⟨⟨hb.1,fun e=>?_,hb.2.2⟩,hg.block b hlt (fun e=>hb.2.1 e.symm)⟩
  rcases hat with h|h
  ·exact hb.2.1 (h ▸ e)
  ·rw [h] at e;have:w.heap.size=b:=Option.some.inj e;omega
 refine ⟨qs++[cs],?_,by simp [hl],fun i h h'=>?_,fun g hg'=>?_⟩
 ·rw [List.flatten_append,List.length_append]
  simpa using ho'
 ·rcases Nat.lt_or_ge i l.length with hi|hi
  ·rw [List.getElem_append_left hi,List.getElem_append_left (by omega)]
   exact ⟨(hr i hi (by omega)).1,hR (hr i hi (by omega)).2 key⟩
  ·have:i=l.length:=by simp at h;omega
   subst this
   have e1:(l++[p])[l.length]=p:=by simp
   have e2:(qs++[cs])[l.length]'h'=cs:=by simp [<- hl]
   rw [e1,e2]
   exact ⟨hk,hR hp (fun b hb hlt=>key b ⟨by omega,fun e=>by have:=hv b e;omega,fun q=>by have:=(hbad b q).1;omega⟩ hlt)⟩
 ·rcases hat with h|h
  ·exact hvb g (h ▸ hg')
  ·rw [h] at hg'
   have:w.heap.size=g:=Option.some.inj hg'
   intro q
   have:=(hbad g q).2
   omega
theorem OwnB.rd {α:Type}{w:World}{base e k:Nat}{bad:Nat->Prop}{R:(Nat->Prop)->World->α->List Value->Prop}{v:Value}{l:List α}(hR:Kp R) (h:OwnB w base bad e k R v l):RdK (fun b=>base<=b) w k (R (fun b=>base<=b) w) l v:=by
 obtain ⟨qs,ho,hl,hr,_⟩:=h
 exact OwnK.rd hR ⟨qs,ho,hl,fun i h h'=>⟨(hr i h h').1,hR (hr i h h').2 (fun b hb _=>⟨⟨hb.1,hb.2.1⟩,rfl⟩)⟩⟩
theorem zH {α:Type}{P:Program}(w:World) {ops:Array Oper}{o:Oper}{a:Act}{K:Act->World->Prop}{Q:Exit->Act->World->Prop}{E:Prop}(hgd:o.guard=none) (s x:Operand) (t:TypeId)
  (ho:o.op=.call { callee:=.builtin .append,args:=#[s,x],argTypes:=#[t,t] })
  (base:Nat) (bad:Nat->Prop) (e:TypeId) (i:TypeInfo) (z:Value) (k bytes:Nat) (ht:P.underlying t=some (.slice e)) (hi:P.info? e=some i) (hz:i.zero=some z)
  (hsize:i.size=k) (hby:i.bytes=bytes) (hzs:z.cells.size=k) {R:(Nat->Prop)->World->α->List Value->Prop}(hR:Kp R)
  (v:Value) (l:List α) (p:α) (cs:List Value) (lo:Nat) (hs:a.eval s=v) (hx:a.eval x=.slice (some ⟨w.heap.size,0,none⟩) 1 1) (hk:cs.length=k) (h1:∀ u∈cs,u.oneCell'=true)
  (hown:OwnB w base bad e k R v l) (hp:R (fun b=>lo<=b) w p cs) (hlo:base<=lo) (hv:∀ x,v.ownBlock=some x->x < lo) (hbad:∀ b,bad b->b < lo/\b < w.heap.size) (hroom:(l.length+1+(l.length+1) / 4+192)*bytes<=281474976710656)
  (h63:l.length+1<=maxLen) (hbase:base<=w.heap.size)
  (h:∀ v' w',OwnB w' base bad e k R v' (l++[p])->(w.alloc (.cells cs.toArray e)).grownBy w' v.ownBlock->Below base w w'->(v'.ownBlock=v.ownBlock∨v'.ownBlock=some (w.alloc (.cells cs.toArray e)).heap.size)->K (a.put o.dst v') w') :
  if Region.wanted o (yielded ops a.tmps)=true then Oper.wp P o a (w.alloc (.cells cs.toArray e)) K Q else E:=by
 have hal:Below w.heap.size w (w.alloc (.cells cs.toArray e)):=zn3.alloc zn2 _
 obtain ⟨qs,ho1,hl1,hr1,hg1⟩:=hown.on hR hal
 refine zA _ hgd s x t t ho base e i z k bytes ht hi hz hsize hby hzs v l.length qs.flatten hs ho1 _ 1 cs hx (zds ht w cs hk h1) 1 (.inr hroom) zn2 h63 (zn5 hbase hal.size) ?_
 intro v' w' hown' hg hat
 refine h v' w' (OwnB.snoc hR hk rfl ho1 hl1 hr1 hown' hg hat (hR hp (fun b hb hlt=>⟨hb,hal.block b hlt⟩)) hlo hv (fun b q=>⟨(hbad b q).1,zn4 (hbad b q).2 hal.size⟩) hg1) hg ?_ hat
 exact ((Below.refl base w).alloc hbase _).grown hg (zn5 hbase hal.size) (fun k hk=>(World.ownsRow.lt ho1 k hk).1)
def zV (w:World) (g:Nat):Nat->List Value->World
 | _,[]=>w
 | o,c :: cs=>zV (w.setCell ⟨g,o,none⟩ c) g (o+1) cs
theorem zgb:∀ (cs zs xs ys:List Value) (w:World) (base e k:Nat) (g n cap o:Nat),zs.length=cs.length->xs.length=o->w.ownsRow base e k (.slice (some ⟨g,0,none⟩) n cap) n (xs++zs++ys)->(zV w g o cs).ownsRow base e k (.slice (some ⟨g,0,none⟩) n cap) n (xs++cs++ys)
 | [],zs,xs,ys,w,base,e,k,g,n,cap,o,hz,hx,h=>by
  have:zs=[]:=List.eq_nil_of_length_eq_zero (by simpa using hz)
  subst this
  exact h
 | c :: cs,[],xs,ys,w,base,e,k,g,n,cap,o,hz,hx,h=>by simp at hz
 | c :: cs,z :: zs,xs,ys,w,base,e,k,g,n,cap,o,hz,hx,h=>by
  have h1:=(World.ownsRow.stored h o c).1
  have e1:(xs++z :: zs++ys).set o c=(xs++[c])++zs++ys:=by
   subst hx
   simp
  rw [e1] at h1
  have h2:=zgb cs zs (xs++[c]) ys _ base e k g n cap (o+1) (by simpa using hz) (by simp [hx]) h1
  have e2:xs++[c]++cs++ys=xs++(c :: cs)++ys:=by simp
  rw [e2] at h2
  exact h2
theorem zt:∀ (cs:List Value) (w:World) (g o k:Nat),k≠g->(zV w g o cs).heap[k]?=w.heap[k]?
 | [],w,g,o,k,h=>rfl
 | c :: cs,w,g,o,k,h=>by
  unfold zV
  rw [zt cs _ g (o+1) k h]
  exact Below.heap_setCell _ _ _ _ (fun e=>h e)
theorem za7:∀ (cs:List Value) (w:World) (g o:Nat),(zV w g o cs).heap.size=w.heap.size
 | [],w,g,o=>rfl
 | c :: cs,w,g,o=>by unfold zV;rw [za7 cs _ g (o+1)];simp
theorem zx {B:Nat}{u:World}:∀ (cs:List Value) (w:World) (g o:Nat),Below B u w->B<=g->Below B u (zV w g o cs)
 | [],w,g,o,h,hg=>h
 | c :: cs,w,g,o,h,hg=>zx cs _ g (o+1) (h.setCell hg c) hg
