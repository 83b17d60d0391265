import Derived.Test.YtfjdceknbdmhpaaGreatDoorWvc22
import Derived.Test.YtfjdceknbdmhpaaGreatDoorWvc17
import Derived.Test.YtfjdceknbdmhpaaGreatDoorWvc11
import Derived.Test.YtfjdceknbdmhpaaGreatDoorWvc10
import Derived.Test.YtfjdceknbdmhpaaGreatDoorWvc09
import Derived.Deep.DeepCutAuto
import Derived.Deep.RegionHeldLaw
import Derived.Test.YtfjdceknbdmhpaaGreatDoorWvc06
import Derived.BigRegion
import Derived.Test.YtfjdceknbdmhpaaGreatDoorWvc07
import Derived.Deep.RegionLaw
/- What the program's Same does, where both read one chart. -/
namespace Go.Proofs.YtfjdceknbdmhpaaGreatDoor
open Go.RowKit Go.Lib
set_option linter.unusedSimpArgs false
set_option linter.unusedVariables false
attribute [local go_sem ↓] Go.wp_at_zero Go.wp_at_succ
def szQ (x:Pq2):Nat:=szL x.1.1 x.1.2
theorem szQ_len:∀ P:List Pq2,P.length≤(P.map szQ).sum
 | []=>by simp
 | p :: P=>by
  have:=szQ_len P
  have:=szL_pos p.1.1 p.1.2
  show P.length+1≤szL p.1.1 p.1.2+(P.map szQ).sum
  omega
theorem two_lit (w:World) (base e:Nat) (u u':Value) (hb:base≤w.heap.size):Two ((w.alloc (.cells #[u] e)).alloc (.cells #[u'] e)) base e (.slice (some ⟨w.heap.size,0,none⟩) 1 1) (.slice (some ⟨w.heap.size+1,0,none⟩) 1 1) 1 1 [u] [u']:=by
 have h1:=World.ownsRow_lit (e:=e) (base:=base) (size:=1) w #[u] 1 hb (by simp [maxLen]) (by simp)
 have h2:=World.ownsRow_lit (e:=e) (base:=base) (size:=1) (w.alloc (.cells #[u] e)) #[u'] 1 (by simp;omega) (by simp [maxLen]) (by simp)
 exact ⟨by simpa using World.ownsRow.alloc h1 _,by simpa using h2,fun g h1 h2=>by simp [Value.ownBlock] at h1 h2;omega⟩
theorem Below.al1 {B:Nat} {w wc:World} (h:Below B w wc) (O:Obj) (hB:B≤wc.heap.size:=by first | assumption | omega):Below B w (wc.alloc O):=h.alloc hB O
theorem Below.aft {B:Nat} {w wc w1:World} (h:Below B w wc) (b:Below B wc w1):Below B w w1:=h.trans b
set_option maxRecDepth 100000 in
set_option maxHeartbeats 16000000 in
theorem same_any {ok ok':Nat→Prop} {w:World} {d:Nat} {c:ChG d} {v v':Value} (h:RdC ok w d c v) (h':RdC ok' w d c v') (hok:ChOk d c) :
  Calls Tryz.prog 12 #[v,v'] w fun e w'=>e=.returned (.bool true)∧Below w.heap.size w w':=by
 obtain ⟨ir,hir,hir0,hir1,hir2⟩:=info_parts Tryz.infoRS
 obtain ⟨sv,ss,rfl,hv,hs⟩:=h
 obtain ⟨sv',ss',rfl,hv',hs'⟩:=h'
 obtain ⟨a,cap,rfl,_⟩:=hv.form
 obtain ⟨a',cap',rfl,_⟩:=hv'.form
 obtain ⟨p4,p6,rfl,_⟩:=hs.form
 obtain ⟨q4,q6,rfl,_⟩:=hs'.form
 obtain ⟨nm,hnm⟩:∃ nv,sV c.1.1=.string nv:=⟨_,rfl⟩
 obtain ⟨n,hn⟩:∃ n,c.2.2.1.length=n:=⟨_,rfl⟩
 obtain ⟨i,hi⟩:∃ n,c.2.2.2.length=n:=⟨_,rfl⟩
 obtain ⟨vn,hvn⟩:∃ x,c.2.1=x:=⟨_,rfl⟩
 obtain ⟨ln,hln⟩:∃ x,c.1.2.1=x:=⟨_,rfl⟩
 obtain ⟨co,hco⟩:∃ x,c.1.2.2=x:=⟨_,rfl⟩
 rw [hnm,hvn,hln,hco,hi,hn]
 rw [hi] at hs hs'
 rw [hn] at hv hv'
 have HV:=mkHid hv
 have HV':=mkHid hv'
 have HP0:Hid (PqOk w.heap.size w (⟨d,c.2.2.2⟩,.slice p4 i p6,.slice q4 i q6)):=⟨hok.fo,hs.stay (kp_st d) (fun b hb hl=>⟨hl,rfl⟩),hs'.stay (kp_st d) (fun b hb hl=>⟨hl,rfl⟩)⟩
 have HSZ:Hid (szL d c.2.2.2≤1000000):=hok.sz
 clear hv hv' hs hs' hok hnm hn hi hvn hln hco
 have hal:Below w.heap.size w ((w.alloc (.cells #[.string nm,.int .i64 vn,.int .i64 ln,.int .i64 co,.slice a n cap,.slice p4 i p6] 33)).alloc (.cells #[.string nm,.int .i64 vn,.int .i64 ln,.int .i64 co,.slice a' n cap',.slice q4 i q6] 33)):=((Below.refl w.heap.size w).alloc (Nat.le_refl _) _).alloc (by simp) _
 have hX:Bn ((w.alloc (.cells #[.string nm,.int .i64 vn,.int .i64 ln,.int .i64 co,.slice a n cap,.slice p4 i p6] 33)).alloc (.cells #[.string nm,.int .i64 vn,.int .i64 ln,.int .i64 co,.slice a' n cap',.slice q4 i q6] 33)) w.heap.size [.string nm,.int .i64 vn,.int .i64 ln,.int .i64 co,.slice a n cap,.slice p4 i p6]:=(Bn.new w [.string nm,.int .i64 vn,.int .i64 ln,.int .i64 co,.slice a n cap,.slice p4 i p6] 33 _ rfl).on ((Below.refl _ _).alloc (Nat.le_refl _) _)
 have hY:Bn ((w.alloc (.cells #[.string nm,.int .i64 vn,.int .i64 ln,.int .i64 co,.slice a n cap,.slice p4 i p6] 33)).alloc (.cells #[.string nm,.int .i64 vn,.int .i64 ln,.int .i64 co,.slice a' n cap',.slice q4 i q6] 33)) (w.heap.size+1) [.string nm,.int .i64 vn,.int .i64 ln,.int .i64 co,.slice a' n cap',.slice q4 i q6]:=Bn.new (w.alloc (.cells #[.string nm,.int .i64 vn,.int .i64 ln,.int .i64 co,.slice a n cap,.slice p4 i p6] 33)) [.string nm,.int .i64 vn,.int .i64 ln,.int .i64 co,.slice a' n cap',.slice q4 i q6] 33 _ (by simp)
 go_enter Tryz.func12,Tryz.ntmps12
 go_upto_region 1 with fail
 generalize ((w.alloc (.cells #[.string nm,.int .i64 vn,.int .i64 ln,.int .i64 co,.slice a n cap,.slice p4 i p6] 33)).alloc (.cells #[.string nm,.int .i64 vn,.int .i64 ln,.int .i64 co,.slice a' n cap',.slice q4 i q6] 33))=wx at *
 have hq:=eqVar_any (HV.out.stay kp_var (ok':=ok) (w':=wx) (fun b hb hl=>⟨hb,hal.block b hl⟩)) (HV'.out.stay kp_var (ok':=ok') (w':=wx) (fun b hb hl=>⟨hb,hal.block b hl⟩))
 obtain ⟨x0,_⟩:=hX 0 _ rfl
 obtain ⟨y0,_⟩:=hY 0 _ rfl
 obtain ⟨x1,_⟩:=hX 1 _ rfl
 obtain ⟨y1,_⟩:=hY 1 _ rfl
 obtain ⟨x2,_⟩:=hX 2 _ rfl
 obtain ⟨y2,_⟩:=hY 2 _ rfl
 obtain ⟨x3,_⟩:=hX 3 _ rfl
 obtain ⟨y3,_⟩:=hY 3 _ rfl
 obtain ⟨x4,_⟩:=hX 4 _ rfl
 obtain ⟨y4,_⟩:=hY 4 _ rfl
 obtain ⟨x5,_⟩:=hX 5 _ rfl
 obtain ⟨y5,_⟩:=hY 5 _ rfl
 go_upto_region 3 with (first
  | (go_at_call 32;refine hq.mono ?_;rintro e w1 ⟨rfl,b1⟩))
 have hb1:=hal.trans (b1.mono hal.size)
 obtain ⟨s5,_⟩:=(hX.on b1) 5 _ rfl
 obtain ⟨t5,_⟩:=(hY.on b1) 5 _ rfl
 clear x0 y0 x1 y1 x2 y2 x3 y3 x4 y4 x5 y5 hX hY hal hq b1 HV HV'
 go_cut [5,6] (fun v5 v6 wc=>∃ T1 T2,v5=.slice (some ⟨T1,0,none⟩) 1 1∧v6=.slice (some ⟨T2,0,none⟩) 1 1∧Hid (Two wc w.heap.size 31 (.slice (some ⟨T1,0,none⟩) 1 1) (.slice (some ⟨T2,0,none⟩) 1 1) 1 1 [.slice p4 i p6] [.slice q4 i q6])∧Below w.heap.size w wc)
 case first=>
  clear HP0 HSZ
  go_region_held_law (fun w'=>w'.cell? ⟨w.heap.size,5,none⟩=some (.slice p4 i p6)∧w'.cell? ⟨w.heap.size+1,5,none⟩=some (.slice q4 i q6))
   ((refine ⟨?_,?_⟩ <;> (repeat (first | (with_reducible exact s5) | (with_reducible exact t5) | (with_reducible refine cell_al ?_) | (with_reducible refine cell_dr ?_))) <;> done))
   (fail)
  ·have hbs:=hb1.size
   go_wp2
   go_meet
   case rel=>exact ⟨_,_,rfl,rfl,two_lit w1.drew w.heap.size 31 _ _ hbs,(hb1.drew.alloc hbs _).alloc (by simp;omega) _⟩
  ·have hbs:=hb1.size
   go_wp2
   go_meet
   case rel=>exact ⟨_,_,rfl,rfl,(two_lit w1.drew w.heap.size 31 _ _ hbs).symm,(hb1.drew.alloc hbs _).alloc (by simp;omega) _⟩
 case rest=>
  obtain ⟨T1,T2,rfl,rfl,hT0,hb0⟩:=hcut
  clear hb1 s5 t5
  obtain ⟨wk,hwk⟩:∃ x,x=wc:=⟨_,rfl⟩
  subst hwk
  go_wp2
  go_loopg [5,6] 1000000 (fun gn p q wr=>∃ (ps:List Pq2),Hid (Two wr w.heap.size 31 p q ps.length ps.length (ps.map (fun x=>x.2.1)) (ps.map (fun x=>x.2.2)))∧Hid (∀ x∈ps,PqOk w.heap.size w x)∧Hid ((ps.map szQ).sum≤gn∧gn≤1000000)∧Below w.heap.size w wr)
  case atStart=>
   refine ⟨[(⟨d,c.2.2.2⟩,.slice p4 i p6,.slice q4 i q6)],hT0,fun x hx=>?_,⟨?_,Nat.le_refl _⟩,hb0⟩
   ·have:x=(⟨d,c.2.2.2⟩,.slice p4 i p6,.slice q4 i q6):=by simpa using hx
    subst this
    exact HP0.out
   ·show szL d c.2.2.2+0≤1000000
    have:=HSZ.out
    omega
  case round=>
   clear hT0 hb0 HP0 HSZ
   obtain ⟨ps,hT,hK,hM,hb⟩:=hrel
   by_cases he:ps=[]
   ·subst he
    obtain ⟨ra,rc,rfl⟩:=rowV_nil hT.out.a
    go_wp2
    go_ret
    exact ⟨rfl,hb⟩
   obtain ⟨ps',x,rfl⟩:=last_ofP he
   obtain ⟨dd,l,hx,hxs⟩:=pq_deep (hK.out x (by simp))
   have hm:=hM.out
   rw [List.map_append,List.sum_append,List.map_singleton,List.sum_singleton,show szQ x=szL (dd+1) l from hxs] at hm
   obtain ⟨x1,x2,x3⟩:=x
   obtain ⟨hf,hr,hr'⟩:=hx
   replace hr:RdK (fun b=>b < w.heap.size) w 11 (rSt (dd+1) (fun b=>b < w.heap.size) w) l x2:=hr
   replace hr':RdK (fun b=>b < w.heap.size) w 11 (rSt (dd+1) (fun b=>b < w.heap.size) w) l x3:=hr'
   obtain ⟨s1,s3,rfl,hs3,hs3m⟩:=hr.form
   obtain ⟨t1,t3,rfl,ht3,ht3m⟩:=hr'.form
   have hTT:=hT.out
   rw [List.length_append,List.length_singleton,List.map_append,List.map_append] at hTT
   obtain ⟨g,gc,g',gc',rfl,rfl,k1,k2,k3,k4,k5,k6,k7,k8,hP⟩:=Two.pop (n:=ps'.length) (by simp) (by simp) hTT
   have hpl:ps'.length≤1000000:=by
    have:=szQ_len ps'
    omega
   obtain ⟨m,hml⟩:∃ m,ps'.length=m:=⟨_,rfl⟩
   obtain ⟨nl,hnl⟩:∃ m,l.length=m:=⟨_,rfl⟩
   rw [hml] at k1 k3 k7 k8 hP hpl ⊢
   rw [hnl] at k7 k8 hs3 ht3
   have hcall:∀ w1,Below w.heap.size w w1→Calls Tryz.prog 33 #[.slice s1 nl s3,.slice t1 nl t3,.func (.func 34) #[] #[]] w1 fun e w'=>e=.returned (.bool true)∧Below w1.heap.size w1 w':=fun w1 b1=>by
    rw [← hnl]
    exact eqfSt_any (hr.stay (kp_st _) (ok':=fun b=>b < w.heap.size) (fun b hb hl=>⟨hb,b1.block b hl⟩)) (hr'.stay (kp_st _) (ok':=fun b=>b < w.heap.size) (fun b hb hl=>⟨hb,b1.block b hl⟩)) (fun s hs=>(hf.2 s hs).1)
   have hll:nl≤100000:=by rw [← hnl];exact hf.1
   have HML:=mkHid hml
   have HNL:=mkHid hnl
   have HF:=mkHid hf
   have HR:=mkHid hr
   have HR':=mkHid hr'
   have HM2:Hid ((ps'.map szQ).sum+szL (dd+1) l≤gk∧gk≤1000000):=hm
   have HK2:Hid (∀ x∈ps',PqOk w.heap.size w x):=fun y hy=>hK.out y (by simp [hy])
   have HP:=mkHid hP
   unfold maxLen at hs3m ht3m k2 k4
   clear hT hK hM hTT hP hml hnl hf hr hr' hm hxs he
   have i1:((m:Int)+1 > 0):=by omega
   have i3:(0:Int)≤(m:Int):=by omega
   have i4:(m:Int)≤(gc:Int):=by omega
   have i4':(m:Int)≤(gc':Int):=by omega
   have i5:(m:Int) < (m:Int)+1:=by omega
   go_upto_region 6 with fail
   go_region_held_law (fun w'=>w'.cell? ⟨g,m,none⟩=some (.slice s1 nl s3)∧w'.cell? ⟨g',m,none⟩=some (.slice t1 nl t3))
    (exact ⟨k7,k8⟩)
    (fail)
   go_upto_region 7 with fail
   go_region_held_law (fun w'=>w'.cell? ⟨g,m,none⟩=some (.slice s1 nl s3)∧w'.cell? ⟨g',m,none⟩=some (.slice t1 nl t3))
    (exact ⟨k7,k8⟩)
    (fail)
   have hP2:Hid (Two wr.drew.drew w.heap.size 31 (.slice (some ⟨g,0,none⟩) m gc) (.slice (some ⟨g',0,none⟩) m gc') m m (ps'.map (fun x=>x.2.1)) (ps'.map (fun x=>x.2.2))):=HP.out.drew.drew
   have hb2:=hb.drew.drew
   clear k7 k8 hb HP
   generalize wr.drew.drew=w2 at *
   go_upto_region 10 with (first
    | (go_at_call 33;refine (hcall _ hb2).mono ?_;rintro e w3 ⟨rfl,b3⟩)
    | fail)
   have hP3:=mkHid (hP2.out.on b3)
   have hb3:=hb2.trans (b3.mono hb2.size)
   clear hP2 hb2 b3 hcall
   have hr0:Hid (Two w3 w.heap.size 31 (.slice (some ⟨g,0,none⟩) m gc) (.slice (some ⟨g',0,none⟩) m gc') (m+0) (m+0) ((ps'++([]:List Pq2)).map (fun x=>x.2.1)) ((ps'++([]:List Pq2)).map (fun x=>x.2.2))):=by
    show Two _ _ _ _ _ _ _ _ _
    rw [List.append_nil]
    exact hP3.out
   clear hP3
   go_wp2
   go_loopw [5,6,70] (fun p q ix wr=>∃ (j:Nat) (ks:List Pq2),j≤nl∧ix=.int .i64 (j:Int)∧Hid (ks.length=j∧(∀ x∈ks,PqOk w.heap.size w x)∧ks.map szQ=(l.take j).map (fun t=>szL dd t.2))∧Hid (Two wr w.heap.size 31 p q (m+j) (m+j) ((ps'++ks).map (fun x=>x.2.1)) ((ps'++ks).map (fun x=>x.2.2)))∧Below w.heap.size w wr) (fun _ _ ix _=>nl - (RowKit.intOf ix).toNat)
   case atStart=>exact ⟨0,[],Nat.zero_le _,rfl,⟨rfl,fun x hx=>absurd hx (by simp),rfl⟩,hr0,hb3⟩
   case round=>
    clear hr0 hb3
    obtain ⟨j,ks,hj,rfl,hks,hT0,hb⟩:=hrel
    obtain ⟨ra,rc,rfl,hrl,hrm⟩:=own_formQ hT0.out.a
    obtain ⟨sa,sc,rfl,hsl,hsm⟩:=own_formQ hT0.out.b
    by_cases hjl:j < nl
    ·have hjll:j < l.length:=by rw [HNL.out];exact hjl
     obtain ⟨b,off,_,_,e4,e6,rfl,hbl,_,hIn,hc⟩:=stQ_at HR.out j hjll
     obtain ⟨b',off',_,_,f4,f6,rfl,hbl',_,hIn',hc'⟩:=stQ_at HR'.out j hjll
     obtain ⟨t,ht⟩:∃ t,l[j]=t:=⟨_,rfl⟩
     have htk:=HF.out.2 _ (List.getElem_mem hjll)
     rw [ht] at hIn hc hIn' hc'
     have htk:StOk (dd+1) t:=by rw [← ht];exact htk
     obtain ⟨ei,hei⟩:∃ m,t.2.length=m:=⟨_,rfl⟩
     rw [hei] at hIn hc hIn' hc'
     have C0:=hc 10 _ rfl
     have D0:=hc' 10 _ rfl
     have C:=(hb.cell (p:=⟨b,off+j*11+10,none⟩) hbl).trans C0
     have D:=(hb.cell (p:=⟨b',off'+j*11+10,none⟩) hbl').trans D0
     obtain ⟨kk,hkk⟩:∃ kk:Pq2,kk=(⟨dd,t.2⟩,.slice e4 ei e6,.slice f4 ei f6):=⟨_,rfl⟩
     have hk2:Hid ((ks++[kk]).length=j+1∧(∀ x∈ks++[kk],PqOk w.heap.size w x)∧(ks++[kk]).map szQ=(l.take (j+1)).map (fun t=>szL dd t.2)):=by
      refine ⟨by rw [List.length_append,hks.out.1];rfl,fun y hy=>?_,?_⟩
      ·rcases List.mem_append.1 hy with hy | hy
       ·exact hks.out.2.1 y hy
       ·have:y=kk:=by simpa using hy
        rw [this,hkk]
        exact ⟨⟨htk.2.1,htk.2.2⟩,hIn,hIn'⟩
      ·rw [List.map_append,hks.out.2.2,List.take_succ_eq_append_getElem hjll,List.map_append,ht,hkk]
       rfl
     have hx1:(ps'++(ks++[kk])).map (fun x=>x.2.1)=(ps'++ks).map (fun x=>x.2.1)++[.slice e4 ei e6]:=by rw [← List.append_assoc,List.map_append,hkk];rfl
     have hx2:(ps'++(ks++[kk])).map (fun x=>x.2.2)=(ps'++ks).map (fun x=>x.2.2)++[.slice f4 ei f6]:=by rw [← List.append_assoc,List.map_append,hkk];rfl
     have HX1:=mkHid hx1
     have HX2:=mkHid hx2
     clear hx1 hx2 hkk
     have i6:(j:Int) < (nl:Int):=by omega
     have i7:(0:Int)≤(j:Int):=by omega
     have hT:Two wr.drew w.heap.size 31 (.slice ra (m+j) rc) (.slice sa (m+j) sc) (m+j) (m+j) ((ps'++ks).map (fun x=>x.2.1)) ((ps'++ks).map (fun x=>x.2.2)):=hT0.out.drew
     have hpa:=fun g hg=>(ownsRow_lt hT0.out.a g hg).2
     have hpb:=fun g hg=>(ownsRow_lt hT0.out.b g hg).2
     have hBB:Below w.heap.size w wr.drew:=hb.drew
     have hbs:=hb.size
     have hlb:b < wr.heap.size:=by omega
     have hlb':b' < wr.heap.size:=by omega
     clear hc hc' hIn hIn' htk ht hei hks hT0 HR HR' HF
     go_upto_region 13 with fail
     go_region_held_law (fun w'=>w'.cell? ⟨b,off+j*11+10,none⟩=some (.slice e4 ei e6)∧w'.cell? ⟨b',off'+j*11+10,none⟩=some (.slice f4 ei f6))
      ((refine ⟨?_,?_⟩ <;> (repeat (first | (with_reducible exact C) | (with_reducible exact D) | (with_reducible refine cell_al ?_) | (with_reducible refine cell_dr ?_))) <;> done))
      (first
       | (refine two_push _ rfl _ _ 62 rfl w.heap.size 31 ir (.slice none 0 0) 24 Tryz.underlying62 hir hir0 hir1 hir2 rfl (.slice ra (m+j) rc) _ (m+j) _ _ _ rfl (by first | exact hT | exact (hT.alloc _) | exact ((hT.alloc _).alloc _)) _ (.slice e4 ei e6) rfl (by first | exact cell1_new _ _ _ _ (by first | rfl | simp) | exact cell_al (cell1_new _ _ _ _ (by first | rfl | simp)) | exact hkp _ _ (cell1_new _ _ _ _ (by first | rfl | simp)) (fun e=>by have:=hpb _ e;(first | omega | (simp at this;omega))) | exact hkp _ _ (cell_al (cell1_new _ _ _ _ (by first | rfl | simp))) (fun e=>by have:=hpb _ e;(first | omega | (simp at this;omega)))) rfl (by omega) (by unfold maxLen;omega) (by first | omega | (simp;omega)) ?_;intro da dc wq hT2 hbq hkp;have hT:=hT2;(first | have hBB:=Below.aft hBB hbq | have hBB:=Below.aft (Below.al1 hBB _) hbq | have hBB:=Below.aft (Below.al1 (Below.al1 hBB _ hBB.size) _ (by simp;omega)) hbq);have hbs:=hBB.size;have C:=(hBB.cell (p:=⟨b,off+j*11+10,none⟩) hbl).trans C0;have D:=(hBB.cell (p:=⟨b',off'+j*11+10,none⟩) hbl').trans D0)
       | (refine two_push _ rfl _ _ 62 rfl w.heap.size 31 ir (.slice none 0 0) 24 Tryz.underlying62 hir hir0 hir1 hir2 rfl (.slice sa (m+j) sc) _ (m+j) _ _ _ rfl (by first | exact hT.symm | exact (hT.alloc _).symm | exact ((hT.alloc _).alloc _).symm) _ (.slice f4 ei f6) rfl (by first | exact cell1_new _ _ _ _ (by first | rfl | simp) | exact cell_al (cell1_new _ _ _ _ (by first | rfl | simp)) | exact hkp _ _ (cell1_new _ _ _ _ (by first | rfl | simp)) (fun e=>by have:=hpa _ e;(first | omega | (simp at this;omega))) | exact hkp _ _ (cell_al (cell1_new _ _ _ _ (by first | rfl | simp))) (fun e=>by have:=hpa _ e;(first | omega | (simp at this;omega)))) rfl (by omega) (by unfold maxLen;omega) (by first | omega | (simp;omega)) ?_;intro da dc wq hT2 hbq hkp;have hT:=hT2.symm;(first | have hBB:=Below.aft hBB hbq | have hBB:=Below.aft (Below.al1 hBB _) hbq | have hBB:=Below.aft (Below.al1 (Below.al1 hBB _ hBB.size) _ (by simp;omega)) hbq);have hbs:=hBB.size;have C:=(hBB.cell (p:=⟨b,off+j*11+10,none⟩) hbl).trans C0;have D:=(hBB.cell (p:=⟨b',off'+j*11+10,none⟩) hbl').trans D0)
       | fail)
     all_goals (
      have hT9:=hT
      rw [← HX1.out,← HX2.out] at hT9
      have HT9:=mkHid hT9
      have hb9:=hBB
      clear hT hT2 hT9 hBB hbq hkp C D C0 D0 hpa hpb HX1 HX2
      (try simp only [List.getElem_toArray,List.getElem_cons_succ,List.getElem_cons_zero,List.set_cons_succ,List.set_cons_zero,List.setIfInBounds_toArray])
      go_wp2
      go_roundw
      case rel=>exact ⟨j+1,ks++[kk],hjl,by go_num,hk2,HT9,hb9⟩
      case measure=>simp [RowKit.intOf];omega)
    ·have i6:¬ (j:Int) < (nl:Int):=by omega
     have hjn:j=nl:=by omega
     subst hjn
     have hkz:=hks.out.2.2
     rw [List.take_of_length_le (by rw [HNL.out];exact Nat.le_refl _)] at hkz
     have hsl:szL (dd+1) l=(l.map (fun t=>szL dd t.2)).sum+1:=rfl
     have hsum:=HM2.out
     have hsum2:((ps'++ks).map szQ).sum=(ps'.map szQ).sum+(l.map (fun t=>szL dd t.2)).sum:=by rw [List.map_append,List.sum_append,hkz]
     have hlen:(ps'++ks).length=m+j:=by rw [List.length_append,HML.out,hks.out.1]
     have hT8:=hT0.out
     rw [← hlen] at hT8
     have hT9:Hid (Two wr w.heap.size 31 (.slice ra (m+j) rc) (.slice sa (m+j) sc) (ps'++ks).length (ps'++ks).length ((ps'++ks).map (fun x=>x.2.1)) ((ps'++ks).map (fun x=>x.2.2))):=by
      have:=hT0.out
      show Two _ _ _ _ _ _ _ _ _
      rw [hlen]
      exact this
     have hK9:Hid (∀ x∈ps'++ks,PqOk w.heap.size w x):=fun y hy=>by
      rcases List.mem_append.1 hy with hy | hy
      ·exact HK2.out y hy
      ·exact hks.out.2.1 y hy
     clear hT0 hT8 hkz
     go_wp2
     go_roundg ((ps'.map szQ).sum+(l.map (fun t=>szL dd t.2)).sum)
     case measure=>omega
     case rel=>exact ⟨ps'++ks,hT9,hK9,⟨by rw [hsum2];exact Nat.le_refl _,by omega⟩,hb⟩
end Go.Proofs.YtfjdceknbdmhpaaGreatDoor
/- A text with more blanks and lines around its blanks and braces has the same words but for places. Math alone. -/
namespace Go.Proofs.YtfjdceknbdmhpaaGreatDoor
open Go.RowKit Go.Lib
set_option linter.unusedVariables false
end Go.Proofs.YtfjdceknbdmhpaaGreatDoor
/- The program's reader of charts in memory; what its fail and sees do. -/
namespace Go.Proofs.YtfjdceknbdmhpaaGreatDoor
open Go.RowKit Go.Lib
set_option linter.unusedSimpArgs false
set_option linter.unusedVariables false
attribute [local go_sem ↓] Go.wp_at_zero Go.wp_at_succ
/-- The reader in block X stands where r does. -/
def Pr (w:World) (X:Nat) (a:Option Addr) (cap:Nat) (ws:List Wd) (fin:Pl) (r:RsC):Prop:=
 ∃ n,Rr w X a cap ws n r.2.2∧r.1=ws.drop n∧n≤ws.length∧(r.2.2≠0→r.2.1=hereR fin r)
theorem Pr.lt {w:World} {X:Nat} {a:Option Addr} {cap:Nat} {ws:List Wd} {fin:Pl} {r:RsC} (h:Pr w X a cap ws fin r):X < w.heap.size:=by
 obtain ⟨n,h,_⟩:=h
 exact h.lt
theorem Pr.on {w w':World} {X:Nat} {a:Option Addr} {cap:Nat} {ws:List Wd} {fin:Pl} {r:RsC} (h:Pr w X a cap ws fin r) (hb:Below w.heap.size w w'):Pr w' X a cap ws fin r:=by
 obtain ⟨n,h1,h2,h3,h4⟩:=h
 exact ⟨n,h1.on hb,h2,h3,h4⟩
theorem Pr.far {w:World} {X Y i:Nat} {a:Option Addr} {cap:Nat} {ws:List Wd} {fin:Pl} {r:RsC} (h:Pr w X a cap ws fin r) (hY:X < Y) (u:Value):Pr (w.setCell ⟨Y,i,none⟩ u) X a cap ws fin r:=by
 obtain ⟨n,h1,h2,h3,h4⟩:=h
 exact ⟨n,h1.far hY u,h2,h3,h4⟩
theorem drop_cons {ws:List Wd} {n:Nat} {x:Wd} {l:List Wd} (h:x :: l=ws.drop n):n < ws.length∧l=ws.drop (n+1)∧∀ hn:n < ws.length,ws[n]=x:=by
 have hn:n < ws.length:=by
  rcases Nat.lt_or_ge n ws.length with h' | h'
  ·exact h'
  ·rw [List.drop_eq_nil_of_le h'] at h;cases h
 rw [List.drop_eq_getElem_cons hn] at h
 injection h with h1 h2
 exact ⟨hn,h2,fun _=>h1.symm⟩
theorem drop_nil {ws:List Wd} {n:Nat} (h:[]=ws.drop n) (hn:n≤ws.length):n=ws.length:=by
 have:=congrArg List.length h
 rw [List.length_drop] at this
 simp at this
 omega
/-- A fault is kept. -/
theorem Pr.bad {w:World} {X n:Nat} {a:Option Addr} {cap:Nat} {ws:List Wd} {fin:Pl} {r:RsC} {e:Int} (h:Rr w X a cap ws n (if r.2.2=0 then e else r.2.2)) (h1:r.1=ws.drop n) (h2:n≤ws.length) (h3:r.2.2≠0→r.2.1=hereR fin r):Pr w X a cap ws fin (failC e (hereR fin r) r):=by
 unfold failC
 by_cases h0:r.2.2=0
 ·rw [if_pos h0] at h ⊢
  exact ⟨n,h,h1,h2,fun _=>rfl⟩
 ·rw [if_neg h0] at h ⊢
  exact ⟨n,h,h1,h2,h3⟩
/-- A word is taken. -/
theorem Pr.step {w:World} {X n:Nat} {a:Option Addr} {cap:Nat} {ws:List Wd} {fin:Pl} {r:RsC} {x:Wd} {l:List Wd} (h:Rr w X a cap ws (n+1) r.2.2) (h1:x :: l=ws.drop n) (h0:r.2.2=0):Pr w X a cap ws fin (l,r.2):=by
 obtain ⟨hn,hl,_⟩:=drop_cons h1
 exact ⟨n+1,h,hl,hn,fun e=>absurd h0 e⟩
set_option maxRecDepth 100000 in
set_option maxHeartbeats 4000000 in
theorem pfail_any {w:World} {X:Nat} {a:Option Addr} {cap:Nat} {ws:List Wd} {n:Nat} {b:Int} (h:Rr w X a cap ws n b) (e:Int) :
  Calls Tryz.prog 106 #[.pointer (some ⟨X,0,none⟩),.int .i64 e] w fun x w'=>(∃ u,x=.returned u)∧Rr w' X a cap ws n (if b=0 then e else b)∧Fx X w w':=by
 have hS:=h.set2 e
 obtain ⟨c0,c1,c2,f1,f2,hL⟩:=id h
 by_cases hb:b=0
 ·rw [if_pos hb]
  have i1:(b == 0)=true:=by simpa using hb
  clear hL hb
  go_enter Tryz.func106,Tryz.ntmps106
  go_wp2
  go_end0
  exact ⟨⟨_,rfl⟩,hS,(Fx.refl X w).setX _⟩
 ·rw [if_neg hb]
  have i1:(b == 0)=false:=by simpa using hb
  clear hL hb hS
  go_enter Tryz.func106,Tryz.ntmps106
  go_wp2
  go_end0
  exact ⟨⟨_,rfl⟩,h,Fx.refl X w⟩
set_option maxRecDepth 100000 in
set_option maxHeartbeats 4000000 in
theorem sees_any {w:World} {X:Nat} {a:Option Addr} {cap:Nat} {ws:List Wd} {fin:Pl} {r:RsC} (h:Pr w X a cap ws fin r) (hk:Wk ws cap) (t:List UInt8) :
  Calls Tryz.prog 104 #[.pointer (some ⟨X,0,none⟩),.string ⟨t.toArray⟩] w fun e w'=>e=.returned (.bool (isC t r))∧∃ m,w'=w.drewN m:=by
 obtain ⟨n,⟨c0,c1,c2,f1,f2,hL⟩,h1,h2,h3⟩:=h
 have hcap:=hk.c
 have hlen:=hk.l
 obtain ⟨b,hb⟩:∃ b,r.2.2=b:=⟨_,rfl⟩
 unfold isC
 rw [hb] at c2 ⊢
 have i2:(0:Int)≤(n:Int):=by omega
 by_cases hz:b=0
 ·subst hz
  cases hr:r.1 with
  | cons x l=>
   rw [hr] at h1
   obtain ⟨hn,_,hx⟩:=drop_cons h1
   obtain ⟨g,off,rfl,hgX,d0,d1,d2,d3⟩:=hL n hn
   have i1:(n:Int) < (ws.length:Int):=by omega
   have hd1:w.cell? ⟨g,off+n*4+1,none⟩=some (.string ⟨(tkW x).2.toArray⟩):=by rw [hx hn] at d1;exact d1
   obtain ⟨bs,hbs⟩:∃ bs,(tkW x).2=bs:=⟨_,rfl⟩
   simp only [hbs] at hd1 ⊢
   clear d0 d1 d2 d3 hL hbs h1 hx hr h2 h3
   by_cases hq:bs=t
   ·have i3:(bs == t)=true:=by rw [hq];simp
    rw [decide_eq_true hq]
    clear hq
    go_enter Tryz.func104,Tryz.ntmps104
    go_wp2
    go_quiet (fail)
    go_wp2
    go_ret
    exact ⟨rfl,_,rfl⟩
   ·have i3:(bs == t)=false:=beq_eq_false_iff_ne.2 hq
    rw [decide_eq_false hq]
    clear hq
    go_enter Tryz.func104,Tryz.ntmps104
    go_wp2
    go_quiet (fail)
    go_wp2
    go_ret
    exact ⟨rfl,_,rfl⟩
  | nil=>
   rw [hr] at h1
   have hn:=drop_nil h1 h2
   have i1:decide (n < ws.length)=false:=decide_eq_false (by omega)
   have i3:¬ n < ws.length:=by omega
   simp only [Bool.and_false]
   clear hL h1 h2 h3 hr hn
   go_enter Tryz.func104,Tryz.ntmps104
   go_wp2
   go_quiet (fail)
   go_wp2
   go_ret
   exact ⟨rfl,_,rfl⟩
 ·have i1:(b == 0)=false:=by simpa using hz
  rw [decide_eq_false hz]
  simp only [Bool.false_and]
  clear hL hz h1 h3
  go_enter Tryz.func104,Tryz.ntmps104
  go_wp2
  go_quiet (fail)
  go_wp2
  go_ret
  exact ⟨rfl,_,rfl⟩
/-- The word is taken, if it is the next one. -/
def skR (fin:Pl) (t:List UInt8) (r:RsC):RsC:=if isC t r=true then takeR fin t r else r
theorem skR_yes {fin:Pl} {t:List UInt8} {r:RsC} (h:isC t r=true):skR fin t r=takeR fin t r:=if_pos h
theorem skR_no {fin:Pl} {t:List UInt8} {r:RsC} (h:isC t r=false):skR fin t r=r:=if_neg (by rw [h];decide)
theorem isC_cons {t:List UInt8} {r:RsC} (h:isC t r=true):r.2.2=0∧∃ x l,r.1=x :: l:=by
 refine ⟨isC_ok h,?_⟩
 unfold isC at h
 cases hr:r.1 with
 | nil=>rw [hr] at h;simp at h
 | cons x l=>exact ⟨x,l,rfl⟩
set_option maxRecDepth 100000 in
set_option maxHeartbeats 4000000 in
theorem skips_any {w:World} {X:Nat} {a:Option Addr} {cap:Nat} {ws:List Wd} {fin:Pl} {r:RsC} (h:Pr w X a cap ws fin r) (hk:Wk ws cap) (t:List UInt8) :
  Calls Tryz.prog 102 #[.pointer (some ⟨X,0,none⟩),.string ⟨t.toArray⟩] w fun e w'=>e=.returned (.bool (isC t r))∧Pr w' X a cap ws fin (skR fin t r)∧Fx X w w':=by
 have hS:=sees_any h hk t
 cases hi:isC t r with
 | true=>
  rw [hi] at hS
  rw [skR_yes hi]
  obtain ⟨h0,x,l,hr⟩:=isC_cons hi
  have e:takeR fin t r=(l,r.2):=by unfold takeR;rw [if_pos hi,hr];rfl
  rw [e]
  obtain ⟨n,h1,h2,h3,h4⟩:=id h
  rw [hr] at h2
  have hlen:=hk.l
  have i5:IntKind.i64.wrap ((n:Int)+1)=(n:Int)+1:=by rw [IntKind.wrap_i64];omega
  go_enter Tryz.func102,Tryz.ntmps102
  go_upto_region 3 with (first
   | (go_at_call 104;refine hS.mono ?_;rintro e w1 ⟨rfl,m,rfl⟩))
  have hR1:=h1.on (draws w m)
  have hR2:=hR1.set1 (n+1)
  have hF:Fx X w ((w.drewN m).setCell ⟨X,1,none⟩ (.int .i64 ((n+1:Nat):Int))):=((Fx.refl X w).drewN m).setX _
  obtain ⟨c0,c1,c2,f1,f2,hL⟩:=id hR1
  clear hL hS h h1 h4 hi e
  generalize w.drewN m=w1 at *
  go_wp2
  go_ret
  refine ⟨rfl,?_,?_⟩
  ·exact Pr.step hR2 h2 h0
  ·exact hF
 | false=>
  rw [hi] at hS
  rw [skR_no hi]
  go_enter Tryz.func102,Tryz.ntmps102
  go_wp2_with (first
   | (go_at_call 104;refine hS.mono ?_;rintro e w1 ⟨rfl,m,rfl⟩))
  go_ret
  exact ⟨rfl,h.on (draws w m),(Fx.refl X w).drewN m⟩
set_option maxRecDepth 100000 in
set_option maxHeartbeats 4000000 in
theorem must_any {w:World} {X:Nat} {a:Option Addr} {cap:Nat} {ws:List Wd} {fin:Pl} {r:RsC} (h:Pr w X a cap ws fin r) (hk:Wk ws cap) (t:List UInt8) :
  Calls Tryz.prog 99 #[.pointer (some ⟨X,0,none⟩),.string ⟨t.toArray⟩] w fun e w'=>(∃ u,e=.returned u)∧Pr w' X a cap ws fin (takeR fin t r)∧Fx X w w':=by
 have hS:=skips_any h hk t
 cases hi:isC t r with
 | true=>
  rw [hi,skR_yes hi] at hS
  go_enter Tryz.func99,Tryz.ntmps99
  go_wp2_with (first
   | (go_at_call 102;refine hS.mono ?_;rintro e w1 ⟨rfl,hp,hf⟩))
  go_end0
  exact ⟨⟨_,rfl⟩,hp,hf⟩
 | false=>
  rw [hi,skR_no hi] at hS
  rw [take_not hi]
  have hF:=fun w1 n (hr:Rr w1 X a cap ws n r.2.2)=>pfail_any hr 12
  go_enter Tryz.func99,Tryz.ntmps99
  go_wp2_with (first
   | (go_at_call 102;refine hS.mono ?_;rintro e w1 ⟨rfl,⟨n,hr,h1,h2,h3⟩,hf⟩)
   | (go_at_call 106;refine (hF _ _ hr).mono ?_;rintro e w2 ⟨⟨u,rfl⟩,hr2,hf2⟩))
  go_end0
  exact ⟨⟨_,rfl⟩,Pr.bad hr2 h1 h2 h3,hf.trans hf2⟩
set_option maxRecDepth 100000 in
set_option maxHeartbeats 4000000 in
theorem last_p {w:World} {X:Nat} {a:Option Addr} {cap:Nat} {ws:List Wd} {fin:Pl} {r:RsC} (h:Pr w X a cap ws fin r) (hk:Wk ws cap) :
  Calls Tryz.prog 60 #[.pointer (some ⟨X,0,none⟩)] w fun e w'=>(∃ u,e=.returned u)∧Pr w' X a cap ws fin (lastR fin r)∧Fx X w w':=by
 obtain ⟨n,h1,h2,h3,h4⟩:=id h
 have hcap:=hk.c
 have hF:=fun w1 (hr:Rr w1 X a cap ws n r.2.2)=>pfail_any hr 12
 obtain ⟨c0,c1,c2,f1,f2,hL⟩:=id h1
 clear hL
 have hlast:∀ w',Rr w' X a cap ws n (if r.2.2=0 then 12 else r.2.2)→n < ws.length→Pr w' X a cap ws fin (lastR fin r):=fun w' hr hn=>by
  have hne:r.1≠[]:=by
   rw [h2]
   intro e
   have:=congrArg List.length e
   rw [List.length_drop] at this
   simp at this
   omega
  unfold lastR
  by_cases h0:r.2.2=0
  ·rw [if_pos ⟨h0,hne⟩];exact Pr.bad hr h2 h3 h4
  ·rw [if_neg (fun e=>h0 e.1)]
   rw [if_neg h0] at hr
   exact ⟨n,hr,h2,h3,h4⟩
 by_cases hn:n < ws.length
 ·have i1:decide ((n:Int) < (ws.length:Int))=true:=decide_eq_true (by omega)
  have HL:Hid (∀ w',Rr w' X a cap ws n (if r.2.2=0 then 12 else r.2.2)→n < ws.length→Pr w' X a cap ws fin (lastR fin r)):=hlast
  obtain ⟨b,hb⟩:∃ b,r.2.2=b:=⟨_,rfl⟩
  clear hlast h2 h4
  go_enter Tryz.func60,Tryz.ntmps60
  go_wp2
  go_quiet (fail)
  have hr1:=h1.on (draws w nq)
  go_wp2_with (first
   | (go_at_call 106;refine (hF _ hr1).mono ?_;rintro e w2 ⟨⟨u,rfl⟩,hr2,hf2⟩))
  go_end0
  exact ⟨⟨_,rfl⟩,HL.out _ hr2 hn,((Fx.refl X w).drewN _).trans hf2⟩
 ·have i1:decide (n < ws.length)=false:=decide_eq_false hn
  have e:lastR fin r=r:=by
   unfold lastR
   rw [if_neg]
   rintro ⟨_,q⟩
   exact q (by rw [h2];exact List.drop_eq_nil_of_le (by omega))
  rw [e]
  clear hlast h2 h4 e
  go_enter Tryz.func60,Tryz.ntmps60
  go_wp2
  go_quiet (fail)
  go_wp2
  go_end0
  exact ⟨⟨_,rfl⟩,h.on (draws w _),(Fx.refl X w).drewN _⟩
theorem addr_plain (g i:Nat):(⟨g,0,none⟩:Addr).add i=⟨g,i,none⟩:=by unfold Addr.add;split <;> simp_all
/-- The last operand, in memory. -/
theorem own_last1 {w:World} {base e:Nat} {v:Value} {x:Sx} {V:List Sx} (h:w.ownsRow base e 1 v (x :: V).length ((x :: V).reverse.map exX)):∃ g cap,v=.slice (some ⟨g,0,none⟩) (V.length+1) cap∧V.length+1≤cap∧cap≤maxLen∧base≤g∧g < w.heap.size∧
  w.cell? ⟨g,V.length,none⟩=some (exX x)∧(∀ j,w.frozen? ⟨g,j,none⟩=false)∧w.ownsRow base e 1 (.slice (some ⟨g,0,none⟩) (V.length+1) cap) (V.length+1) (V.reverse.map exX++[exX x]):=by
 rw [List.length_cons,List.reverse_cons,List.map_append] at h
 have hl:(V.reverse.map exX).length=V.length:=by simp
 have hc:=fun g=>World.ownsRow.cells h (g:=g)
 have h':=h
 rcases h.2 with ⟨_,h2⟩ | ⟨g,cap,cur,rfl,hb,hg,hnc,hcm,hcs,htake⟩
 ·omega
 ·have c0:=hc g rfl V.length (exX x) (by rw [List.getElem?_append_right (by omega),hl,Nat.sub_self];rfl)
  rw [addr_plain] at c0
  exact ⟨g,cap,rfl,hnc,hcm,hb,(Array.getElem?_eq_some_iff.1 hg).1,c0,fun j=>World.ownsRow.frozenAt h' j,h'⟩
/-- The last operand written anew. -/
theorem own_set1 {w:World} {base e g cap n:Nat} {xs:List Value} {a u:Value} (hn:xs.length=n) (h:w.ownsRow base e 1 (.slice (some ⟨g,0,none⟩) (n+1) cap) (n+1) (xs++[a])):(w.setCell ⟨g,n,none⟩ u).ownsRow base e 1 (.slice (some ⟨g,0,none⟩) (n+1) cap) (n+1) (xs++[u]):=by
 have:=(World.ownsRow.stored h n u).1
 subst hn
 rw [List.set_append_right _ _ (Nat.le_refl _),Nat.sub_self] at this
 exact this
theorem rdr_far {w:World} {X g i:Nat} {y:Yd} {vv ww:Value} (h:w.ownsRow (X+1) 347 2 ww y.W.length (cels2 y.W.reverse)) (ha:ww.ownBlock≠some g) (u:Value):(w.setCell ⟨g,i,none⟩ u).ownsRow (X+1) 347 2 ww y.W.length (cels2 y.W.reverse):=
 own_keep h (fun k hk=>Below.heap_setCell _ _ _ _ (fun e=>ha (by rw [hk];exact congrArg some e)))
set_option maxRecDepth 100000 in
set_option maxHeartbeats 4000000 in
theorem joinOne_bin {w:World} {X:Nat} {x z:Sx} {V:List Sx} {W:List Sg2} {o:Nat} {b:Bool} {vv ww:Value} (h:Rdr w X ⟨x :: z :: V,W,o,b⟩ vv ww) (s:Sg2) (hs:¬ s.2=6) (hl:V.length≤4000) :
  Calls Tryz.prog 299 #[.pointer (some ⟨X,0,none⟩),.agg #[.string ⟨s.1.toArray⟩,.int .i64 (s.2:Int)]] w fun e w'=>(∃ u,e=.returned u)∧(∃ vv',Rdr w' X ⟨mk2 ⟨s.1.toArray⟩ z x :: V,W,o,b⟩ vv' ww∧Fr2 X vv ww w w' vv' ww)∧Below X w w':=by
 have hb:=h.b
 have hw:=h.w
 have ha:=h.a
 obtain ⟨g,cap,rfl,h1,h2,h3,h4,c1,fz,ho⟩:=own_last1 h.v
 simp only [List.length_cons] at h1 c1 ho hb ha
 have ho2:w.ownsRow (X+1) 130 1 (.slice (some ⟨g,0,none⟩) (V.length+1) cap) (V.length+1) ((z :: V).reverse.map exX):=ownsRow_pop (by simp) ho
 have c0:w.cell? ⟨g,V.length,none⟩=some (exX z):=by
  have:=World.ownsRow.cells ho2 (g:=g) rfl V.length (exX z) (by rw [List.reverse_cons,List.map_append,List.getElem?_append_right (by simp)];simp)
  rwa [addr_plain] at this
 obtain ⟨q,hq⟩:∃ q,exX x=q:=⟨_,rfl⟩
 obtain ⟨r,hr⟩:∃ r,exX z=r:=⟨_,rfl⟩
 have hqf:=exX_form x
 have hrf:=exX_form z
 rw [hq] at c1 hqf
 rw [hr] at c0 hrf
 have l1:((s.2:Int) != 6)=true:=by simp;omega
 have i2:IntKind.i64.wrap ((V.length:Int)+1+1 - 1)=(V.length:Int)+1:=by rw [IntKind.wrap_i64];omega
 have i3:IntKind.i64.wrap ((V.length:Int)+1 - 1)=(V.length:Int):=by rw [IntKind.wrap_i64];omega
 have i4:IntKind.i64.wrap ((V.length:Int)+1)=(V.length:Int)+1:=by rw [IntKind.wrap_i64];omega
 have hbel:Below w.heap.size w (w.alloc (.cells #[.string ⟨s.1.toArray⟩,.int .i64 (s.2:Int)] 347)):=(Below.refl _ w).alloc (Nat.le_refl _) _
 have hA:=hb.keep hbel
 have c1':=(hbel.cell (p:=⟨g,V.length+1,none⟩) h4).trans c1
 have c0':=(hbel.cell (p:=⟨g,V.length,none⟩) h4).trans c0
 have z1:=(hbel.frozen (p:=⟨g,V.length,none⟩) h4).trans (fz _)
 have ho3:=World.ownsRow.alloc ho2 (.cells #[.string ⟨s.1.toArray⟩,.int .i64 (s.2:Int)] 347)
 have hw3:=World.ownsRow.alloc hw (.cells #[.string ⟨s.1.toArray⟩,.int .i64 (s.2:Int)] 347)
 have p1:(w.alloc (.cells #[.string ⟨s.1.toArray⟩,.int .i64 (s.2:Int)] 347)).cell? ⟨w.heap.size,0,none⟩=some (.string ⟨s.1.toArray⟩):=by simp
 have p2:(w.alloc (.cells #[.string ⟨s.1.toArray⟩,.int .i64 (s.2:Int)] 347)).cell? ⟨w.heap.size,1,none⟩=some (.int .i64 (s.2:Int)):=by simp
 obtain ⟨y0,y1,y2,y3,f0,f1,f2,f3⟩:=id hA
 have j1:(V.length:Int) < (V.length:Int)+1+1:=by omega
 have j2:(V.length:Int)+1 < (V.length:Int)+1+1:=by omega
 have j3:(0:Int)≤(V.length:Int):=by omega
 have j4:(0:Int)≤(V.length:Int)+1:=by omega
 have j5:(V.length:Int)+1≤(cap:Int):=by omega
 have hu:exX (mk2 ⟨s.1.toArray⟩ z x)=.iface 198 (.agg #[.string ⟨s.1.toArray⟩,r,q]):=by rw [exX_mk2,hr,hq]
 have hXg:g≠X:=by omega
 have haw:ww.ownBlock≠some g:=ha g rfl
 have ho4:(w.alloc (.cells #[.string ⟨s.1.toArray⟩,.int .i64 (s.2:Int)] 347)).ownsRow (X+1) 130 1 (.slice (some ⟨g,0,none⟩) (V.length+1) cap) (V.length+1) (V.reverse.map exX++[exX z]):=by rw [List.reverse_cons,List.map_append] at ho3;exact ho3
 clear h hb ha hw ho ho2 ho3 c0 c1 fz hq hr
 rcases hqf with rfl | ⟨qu,qy,rfl⟩ <;> rcases hrf with rfl | ⟨ru,ry,rfl⟩
 all_goals (
  go_enter Tryz.func299,Tryz.ntmps299
  go_wp2
  generalize w.alloc (.cells #[.string ⟨s.1.toArray⟩,.int .i64 (s.2:Int)] 347)=wa at *
  go_region
  have ho5:=own_set1 (u:=exX (mk2 ⟨s.1.toArray⟩ z x)) (by simp) ho4
  have hB:=hA.far hXg (i:=V.length) (exX (mk2 ⟨s.1.toArray⟩ z x))
  have hw4:=rdr_far (y:=⟨mk2 ⟨s.1.toArray⟩ z x :: V,W,o,b⟩) hw3 haw (exX (mk2 ⟨s.1.toArray⟩ z x)) (vv:=.nilIface) (i:=V.length)
  have hF:=(((Fr2.refl X (.slice (some ⟨g,0,none⟩) (V.length+1+1) cap) ww w).on hbel).setV (g:=g) rfl V.length (exX (mk2 ⟨s.1.toArray⟩ z x)))
  have hbel2:Below X w (wa.setCell ⟨g,V.length,none⟩ (exX (mk2 ⟨s.1.toArray⟩ z x))):=(hbel.mono (by omega)).setCell (by show X≤g;omega) _
  rw [hu] at ho5 hB hw4 hbel2 hF
  clear hA y0 y1 y2 y3 f0 f1 f2 f3 ho4 hw3 hbel c0' c1' z1 p1 p2
  obtain ⟨y0,y1,y2,y3,f0,f1,f2,f3⟩:=id hB
  generalize wa.setCell ⟨g,V.length,none⟩ _=wb at *
  go_wp2
  go_end0
  refine ⟨⟨_,rfl⟩,⟨_,Rdr.drew ⟨hB.set0 _,?_,ownsRow_setCell_below hw4 (Nat.lt_succ_self X) _,fun k hk=>?_⟩,((hF.setX 0 _).on ((Below.refl _ _).drew)).rows rfl rfl⟩,((hbel2.setCell (Nat.le_refl _) _).drew)⟩
  ·show World.ownsRow _ _ _ _ _ (V.length+1) ((mk2 ⟨s.1.toArray⟩ z x :: V).reverse.map exX)
   rw [List.reverse_cons,List.map_append,List.map_singleton,hu]
   exact ownsRow_setCell_below ho5 (Nat.lt_succ_self X) _
  ·simp only [Value.ownBlock,Option.some.injEq] at hk
   rw [← hk];exact haw)
set_option maxRecDepth 100000 in
set_option maxHeartbeats 4000000 in
theorem joinOne_un {w:World} {X:Nat} {x:Sx} {V:List Sx} {W:List Sg2} {o:Nat} {b:Bool} {vv ww:Value} (h:Rdr w X ⟨x :: V,W,o,b⟩ vv ww) (t:List UInt8) (hl:V.length≤4000) :
  Calls Tryz.prog 299 #[.pointer (some ⟨X,0,none⟩),.agg #[.string ⟨t.toArray⟩,.int .i64 6]] w fun e w'=>(∃ u,e=.returned u)∧(∃ vv',Rdr w' X ⟨mk1 (if t=[33] then 3 else 4) x :: V,W,o,b⟩ vv' ww∧Fr2 X vv ww w w' vv' ww)∧Below X w w':=by
 have hb:=h.b
 have hw:=h.w
 have ha:=h.a
 obtain ⟨g,cap,rfl,h1,h2,h3,h4,c1,fz,ho⟩:=own_last1 h.v
 obtain ⟨q,hq⟩:∃ q,exX x=q:=⟨_,rfl⟩
 have hqf:=exX_form x
 rw [hq] at c1 hqf
 have i2:IntKind.i64.wrap ((V.length:Int)+1 - 1)=(V.length:Int):=by rw [IntKind.wrap_i64];omega
 have i4:IntKind.i64.wrap ((V.length:Int)+1)=(V.length:Int)+1:=by rw [IntKind.wrap_i64];omega
 have hbel:Below w.heap.size w (w.alloc (.cells #[.string ⟨t.toArray⟩,.int .i64 6] 347)):=(Below.refl _ w).alloc (Nat.le_refl _) _
 have hA:=hb.keep hbel
 have c1':=(hbel.cell (p:=⟨g,V.length,none⟩) h4).trans c1
 have z1:=(hbel.frozen (p:=⟨g,V.length,none⟩) h4).trans (fz _)
 have ho4:=World.ownsRow.alloc ho (.cells #[.string ⟨t.toArray⟩,.int .i64 6] 347)
 have hw3:=World.ownsRow.alloc hw (.cells #[.string ⟨t.toArray⟩,.int .i64 6] 347)
 have p1:(w.alloc (.cells #[.string ⟨t.toArray⟩,.int .i64 6] 347)).cell? ⟨w.heap.size,0,none⟩=some (.string ⟨t.toArray⟩):=by simp
 have p2:(w.alloc (.cells #[.string ⟨t.toArray⟩,.int .i64 6] 347)).cell? ⟨w.heap.size,1,none⟩=some (.int .i64 6):=by simp
 obtain ⟨y0,y1,y2,y3,f0,f1,f2,f3⟩:=id hA
 have j2:(V.length:Int) < (V.length:Int)+1:=by omega
 have j3:(0:Int)≤(V.length:Int):=by omega
 have j4:(0:Int)≤(V.length:Int)+1:=by omega
 have j5:(V.length:Int)+1≤(cap:Int):=by omega
 have hXg:g≠X:=by omega
 have haw:ww.ownBlock≠some g:=ha g rfl
 obtain ⟨k,hk⟩:∃ k:Int,(if t=[33] then (3:Int) else 4)=k:=⟨_,rfl⟩
 rw [hk]
 have hkk:(t == [33])=true∧exX (mk1 k x)=.iface 195 (.agg #[q])∨(t == [33])=false∧exX (mk1 k x)=.iface 196 (.agg #[q]):=by
  rw [← hk,← hq]
  by_cases e:t=[33]
  ·left;rw [if_pos e];exact ⟨by rw [e];rfl,exX_not x⟩
  ·right;rw [if_neg e];exact ⟨beq_eq_false_iff_ne.2 e,exX_neg x⟩
 clear h ha c1 fz hq hk
 have hob:∀ u:Value,(w.setCell ⟨g,V.length,none⟩ u).ownsRow (X+1) 130 1 (.slice (some ⟨g,0,none⟩) (V.length+1) cap) (V.length+1) (V.reverse.map exX++[u]):=fun u=>own_set1 (by simp) ho
 have hwb:∀ u:Value,(w.setCell ⟨g,V.length,none⟩ u).ownsRow (X+1) 347 2 ww W.length (cels2 W.reverse):=fun u=>rdr_far (y:=⟨V,W,o,b⟩) hw haw u (vv:=.nilIface)
 have hbb:∀ u:Value,B4 (w.setCell ⟨g,V.length,none⟩ u) X (.slice (some ⟨g,0,none⟩) (V.length+1) cap) ww (.int .i64 (o:Int)) (.bool b):=fun u=>hb.far hXg u
 have hbl:∀ u:Value,Below X w (w.setCell ⟨g,V.length,none⟩ u):=fun u=>(Below.refl _ _).setCell (by show X≤g;omega) _
 have hfr:∀ u:Value,Fr2 X (.slice (some ⟨g,0,none⟩) (V.length+1) cap) ww w (w.setCell ⟨g,V.length,none⟩ u) (.slice (some ⟨g,0,none⟩) (V.length+1) cap) ww:=fun u=>(Fr2.refl X _ ww w).setV (g:=g) rfl V.length u
 have hal:∀ wx:World,Below wx.heap.size wx (wx.alloc (.cells #[.string ⟨t.toArray⟩,.int .i64 6] 347)):=fun wx=>(Below.refl _ _).alloc (Nat.le_refl _) _
 have hX:=hb.lt
 clear hb hw ho ho4 hw3 hbel hA
 rcases hqf with rfl | ⟨qu,qy,rfl⟩ <;> rcases hkk with ⟨e1,hu⟩ | ⟨e1,hu⟩
 all_goals (
  have hB:=hbb (exX (mk1 k x))
  have ho5:=hob (exX (mk1 k x))
  have hw4:=hwb (exX (mk1 k x))
  have hb2:=hbl (exX (mk1 k x))
  have hF:=hfr (exX (mk1 k x))
  rw [hu] at hB ho5 hw4 hb2 hF
  obtain ⟨q0,q1,q2,q3,g0,g1,g2,g3⟩:=id (hB.keep (hal _))
  clear hob hwb hbb hbl hfr
  go_enter Tryz.func299,Tryz.ntmps299
  go_wp2
  go_end0
  refine ⟨⟨_,rfl⟩,⟨_,⟨(hB.set0 _).keep (hal _),?_,World.ownsRow.alloc (ownsRow_setCell_below hw4 (Nat.lt_succ_self X) _) _,fun k hk=>?_⟩,(hF.setX 0 _).on (hal _)⟩,((hb2.setCell (Nat.le_refl X) _).alloc (by simp;omega) _)⟩
  ·show World.ownsRow _ _ _ _ _ (V.length+1) ((mk1 k x :: V).reverse.map exX)
   rw [List.reverse_cons,List.map_append,List.map_singleton,hu]
   exact World.ownsRow.alloc (ownsRow_setCell_below ho5 (Nat.lt_succ_self X) _) _
  ·simp only [Value.ownBlock,Option.some.injEq] at hk
   rw [← hk];exact haw)
theorem joinOne_any {w:World} {X:Nat} {V:List Sx} {W:List Sg2} {o:Nat} {b:Bool} {vv ww:Value} (h:Rdr w X ⟨V,W,o,b⟩ vv ww) (s:Sg2) (h6:s.2=6→1≤V.length) (h2:s.2≠6→2≤V.length) (hl:V.length≤4000) :
  Calls Tryz.prog 299 #[.pointer (some ⟨X,0,none⟩),.agg #[.string ⟨s.1.toArray⟩,.int .i64 (s.2:Int)]] w fun e w'=>(∃ u,e=.returned u)∧(∃ vv',Rdr w' X ⟨jn1 V s,W,o,b⟩ vv' ww∧Fr2 X vv ww w w' vv' ww)∧Below X w w':=by
 by_cases hs:s.2=6
 ·match V,h6 hs,h,hl with
  | x :: V,_,h,hl=>
   have e:jn1 (x :: V) s=mk1 (if s.1=[33] then 3 else 4) x :: V:=by unfold jn1;rw [if_pos hs]
   rw [e,hs]
   exact joinOne_un h s.1 (by rw [List.length_cons] at hl;omega)
 ·match V,h2 hs,h,hl with
  | x :: z :: V,_,h,hl=>
   have e:jn1 (x :: z :: V) s=mk2 ⟨s.1.toArray⟩ z x :: V:=by unfold jn1;rw [if_neg hs]
   rw [e]
   exact joinOne_bin h s hs (by rw [List.length_cons,List.length_cons] at hl;omega)
/-- How many of the signs take two operands; how many are brackets. -/
def bins:List Sg2→Nat
 | []=>0
 | s :: W=>bins W+(if s.2=0∨s.2=6 then 0 else 1)
def brk:List Sg2→Nat
 | []=>0
 | s :: W=>brk W+(if s.2=0 then 1 else 0)
theorem jn1_len {V:List Sx} {s:Sg2} {W:List Sg2} (h0:s.2≠0) (h:V.length=bins (s :: W)+1):(jn1 V s).length=bins W+1∧(s.2=6→1≤V.length)∧(s.2≠6→2≤V.length):=by
 unfold bins at h
 unfold jn1
 by_cases h6:s.2=6
 ·rw [if_pos (.inr h6)] at h
  rw [if_pos h6]
  refine ⟨?_,fun _=>by omega,fun h=>absurd h6 h⟩
  match V,h with
  | x :: V,h=>exact h
 ·rw [if_neg (fun q=>q.elim h0 h6)] at h
  rw [if_neg h6]
  refine ⟨?_,fun h=>absurd h h6,fun _=>by omega⟩
  match V,h with
  | x :: z :: V,h=>
   rw [List.length_cons,List.length_cons] at h
   show (V.length+1)=_
   omega
  | [x],h=>simp at h
theorem jn_ok {k:Nat} (hk:1≤k):∀ (W:List Sg2) (V:List Sx),V.length=bins W+1→(jn k V W).1.length=bins (jn k V W).2+1∧brk (jn k V W).2=brk W∧(jn k V W).2.length≤W.length∧topL (jn k V W).2 < k
 | [],V,h=>⟨h,rfl,Nat.le_refl _,hk⟩
 | s :: W,V,h=>by
  unfold jn
  by_cases hs:k≤s.2
  ·rw [if_pos hs]
   obtain ⟨a,b,c,d⟩:=jn_ok hk W (jn1 V s) (jn1_len (by omega) h).1
   refine ⟨a,?_,by rw [List.length_cons];omega,d⟩
   rw [b]
   show brk W=brk W+_
   rw [if_neg (by omega)];rfl
  ·rw [if_neg hs]
   exact ⟨h,rfl,Nat.le_refl _,by show s.2 < k;omega⟩
theorem bins_le:∀ W,bins W≤W.length
 | []=>Nat.le_refl _
 | s :: W=>by
  have:=bins_le W
  show bins W+_≤W.length+1
  split <;> omega
/-- How many signs wait, as memory tells. -/
def wlen (X:Nat) (w:World):Nat:=match w.cell? ⟨X,1,none⟩ with | some (.slice _ n _)=>n | _=>0
theorem Rdr.wlen {w:World} {X:Nat} {y:Yd} {vv ww:Value} (h:Rdr w X y vv ww):wlen X w=y.W.length:=by
 obtain ⟨a,cap,rfl,_⟩:=own_form h.w
 unfold Go.Proofs.YtfjdceknbdmhpaaGreatDoor.wlen
 rw [h.b.c1]
/-- The last sign taken off. -/
theorem Rdr.popW {w:World} {X g cap:Nat} {V:List Sx} {s:Sg2} {W:List Sg2} {o:Nat} {b:Bool} {vv:Value} (h:Rdr w X ⟨V,s :: W,o,b⟩ vv (.slice (some ⟨g,0,none⟩) (W.length+1) cap)) :
  Rdr (w.setCell ⟨X,1,none⟩ (.slice (some ⟨g,0,none⟩) W.length cap)) X ⟨V,W,o,b⟩ vv (.slice (some ⟨g,0,none⟩) W.length cap):=by
 obtain ⟨g',cap',e,_,_,_,_,_,_,ho⟩:=own_last2 h.w
 simp only [Value.slice.injEq,Option.some.injEq,Addr.mk.injEq,and_true,true_and] at e
 obtain ⟨rfl,rfl⟩:=e
 exact ⟨h.b.set1 _,ownsRow_setCell_below h.v (Nat.lt_succ_self X) _,ownsRow_setCell_below ho (Nat.lt_succ_self X) _,h.a⟩
theorem below_draws (B:Nat) (w:World) (m:Nat):Below B w (w.drewN m):=⟨rfl,rfl,rfl,Nat.le_refl _,fun _ _=>rfl⟩
set_option maxRecDepth 100000 in
set_option maxHeartbeats 4000000 in
theorem join_any {w:World} {X:Nat} {V:List Sx} {W:List Sg2} {o:Nat} {b:Bool} {vv ww:Value} (h:Rdr w X ⟨V,W,o,b⟩ vv ww) (k:Nat) (hk:1≤k) (hk6:k≤7) (hV:V.length=bins W+1) (hl:W.length≤3001) :
  Calls Tryz.prog 282 #[.pointer (some ⟨X,0,none⟩),.int .i64 (k:Int)] w fun e w'=>(∃ u,e=.returned u)∧(∃ vv' ww',Rdr w' X ⟨(jn k V W).1,(jn k V W).2,o,b⟩ vv' ww'∧Fr2 X vv ww w w' vv' ww')∧Below X w w':=by
 obtain ⟨R,hR⟩:∃ R,jn k V W=R:=⟨_,rfl⟩
 rw [hR]
 have hR0:Hid (jn k V W=R):=hR
 clear hR
 go_enter Tryz.func282,Tryz.ntmps282
 go_wp2
 go_loopw [] (fun wr=>∃ (V':List Sx) (W':List Sg2) (vv' ww':Value),Rdr wr X ⟨V',W',o,b⟩ vv' ww'∧Fr2 X vv ww w wr vv' ww'∧Hid (jn k V' W'=R)∧Hid (V'.length=bins W'+1)∧W'.length≤3001∧Below X w wr) (fun wr=>wlen X wr)
 case atStart=>exact ⟨V,W,vv,ww,h,Fr2.refl X vv ww w,hR0,hV,hl,Below.refl _ _⟩
 case round=>
  obtain ⟨V',W',vv',ww',hr,hf,hj,hv,hl',hb⟩:=hrel
  have hL:=last_any hr (by show W'.length≤4000;omega)
  simp only at hL
  clear h hR0 hV hl
  by_cases hc:k≤topL W'
  ·cases W' with
   | nil=>exact absurd hc (by show ¬ k≤0;omega)
   | cons s W'=>
   have hc':k≤s.2:=hc
   have i1:(k:Int)≤(topL (s :: W'):Int):=by omega
   have hm:=hr.wlen
   obtain ⟨hn1,hn2,hn3⟩:=jn1_len (W:=W') (by omega) hv.out
   have hjj:Hid (jn k (jn1 V' s) W'=R):=by
    have:=hj.out
    rw [jn,if_pos hc'] at this
    exact this
   have hnn:Hid ((jn1 V' s).length=bins W'+1):=hn1
   have hvl:V'.length≤4000:=by
    have:=bins_le (s :: W')
    have:=hv.out
    omega
   obtain ⟨g,cap,rfl,a1,a2,a3,a4,c0,c1,ho⟩:=own_last2 hr.w
   have hJ:=fun m=>joinOne_any (hr.drewN m) s hn2 hn3 hvl
   have c0':∀ m,(wr.drewN m).cell? ⟨g,W'.length*2,none⟩=some (.string ⟨s.1.toArray⟩):=fun _=>c0
   have c1':∀ m,(wr.drewN m).cell? ⟨g,W'.length*2+1,none⟩=some (.int .i64 (s.2:Int)):=fun _=>c1
   have y1:∀ m,(wr.drewN m).cell? ⟨X,1,none⟩=some (.slice (some ⟨g,0,none⟩) (W'.length+1) cap):=fun _=>hr.b.c1
   rw [List.length_cons] at hl'
   have i2:IntKind.i64.wrap ((W'.length:Int)+1 - 1)=(W'.length:Int):=by rw [IntKind.wrap_i64];omega
   have i3:(W'.length:Int) < (W'.length:Int)+1:=by omega
   have i4:(0:Int)≤(W'.length:Int):=by omega
   have i5:(W'.length:Int)≤(cap:Int):=by omega
   clear hj hv hn1 hn2 hn3
   go_wp2_with (first
    | (go_at_call 296;refine hL.mono ?_;rintro e w1 ⟨rfl,m,rfl⟩;have hJm:=hJ m;have y1m:=y1 m;have c0m:=c0' m;have c1m:=c1' m;clear hJ y1 c0' c1' c0 c1 hL;have hbm:Below X w (wr.drewN m):=hb.trans (below_draws _ _ m);have hfm:=hf.on (below_draws _ _ m);generalize wr.drewN m=wm at *)
    | (go_at_call 299;refine hJm.mono ?_;rintro e w2 ⟨⟨u,rfl⟩,⟨vv2,hr2,hf2⟩,b2⟩;have hb2:=hbm.trans b2;have hf3:=hfm.trans hf2;obtain ⟨q0,q1,q2,q3,g0,g1,g2,g3⟩:=id hr2.b))
   have hr3:=hr2.popW
   exact ⟨⟨_,_,_,_,hr3,(hf3.setX 1 _).rows rfl rfl,hjj,hnn,by omega,hb2.setCell (Nat.le_refl X) _⟩,by rw [hr3.wlen,hm];exact Nat.lt_succ_self _⟩
  ·have i1:¬ (k:Int)≤(topL W':Int):=by omega
   have hjj:=hj.out
   rw [jn_skip (by omega)] at hjj
   subst hjj
   go_wp2_with (first
    | (go_at_call 296;refine hL.mono ?_;rintro e w1 ⟨rfl,m,rfl⟩))
   go_end0
   exact ⟨⟨_,rfl⟩,⟨_,_,hr.drewN m,hf.on (below_draws _ _ m)⟩,hb.trans (below_draws _ _ m)⟩
theorem Tryz.infoSg:(Tryz.prog.info? 347).map (fun i=>(i.zero,i.size,i.bytes))=some (some (.agg #[.string ⟨#[]⟩,.int .i64 0]),2,24):=by kernel_rfl
theorem src_sign {P:Program} {t e:TypeId} (ht:P.underlying t=some (.slice e)) (w:World) (s:Sg2) :
  Src P 2 t (.slice (some ⟨w.heap.size,0,none⟩) 1 1) 1 (cel2 s) (w.alloc (.cells #[.string ⟨s.1.toArray⟩,.int .i64 (s.2:Int)] e)):=by
 have h:=World.ownsRow_lit (base:=w.heap.size) (e:=e) (size:=2) w #[.string ⟨s.1.toArray⟩,.int .i64 (s.2:Int)] 1 (Nat.le_refl _) (by simp [maxLen]) (by simp)
 exact Src.ofSlice _ ht _ 1 1 _ (by simp [cel2]) (by simpa [cel2] using h.cells (g:=w.heap.size) rfl) (by simp [cel2,Value.oneCell'])
set_option maxRecDepth 100000 in
set_option maxHeartbeats 4000000 in
theorem wait_any {w:World} {X:Nat} {V:List Sx} {W:List Sg2} {o:Nat} {b:Bool} {vv ww:Value} (h:Rdr w X ⟨V,W,o,b⟩ vv ww) (t:List UInt8) (k:Nat) (hk:k≤6) (hl:W.length≤3001) (ht:t.length≤12000) :
  Calls Tryz.prog 297 #[.pointer (some ⟨X,0,none⟩),.string ⟨t.toArray⟩,.int .i64 (k:Int)] w fun e w'=>(∃ u,e=.returned u)∧(∃ ww',Rdr w' X ⟨V,(t,k) :: W,o,b⟩ vv ww')∧Below X w w':=by
 obtain ⟨i0,hi,hz0,hz1,hz2⟩:=info_parts Tryz.infoSg
 obtain ⟨a,cap,rfl,hcap⟩:=own_form h.w
 simp only at h
 have hC:=fun w1=>pClone_any ⟨t.toArray⟩ w1 (by show t.toArray.size≤_;simp;omega)
 obtain ⟨y0,y1,y2,y3,f0,f1,f2,f3⟩:=id h.b
 go_enter Tryz.func297,Tryz.ntmps297
 go_wp2
 go_region_law (first
   | (refine step_append_at _ (by rfl) (.tmp 10) (.tmp 15) 317 317 (by rfl) (X+1) 347 i0 (.agg #[.string ⟨#[]⟩,.int .i64 0]) 2 24 Tryz.underlying317 hi hz0 hz1 hz2 rfl _ W.length _ (by rfl) (World.ownsRow.alloc hr3.w _) _ 1 (cel2 (t,k)) (by rfl) (src_sign Tryz.underlying317 w3 (t,k)) 1 (.inr (by omega)) (Nat.le_refl _) (by unfold maxLen;omega) (by simp;have:=hr3.lt;omega) ?_;intro v4 w4 ho6 hg4 hat;obtain ⟨a4,cap4,rfl,hc4⟩:=own_form ho6;have hb4:Below (X+1) (w3.alloc (.cells #[.string ⟨t.toArray⟩,.int .i64 (k:Int)] 347)) w4:=(Below.refl _ _).grown hg4 (by simp;have:=hr3.lt;omega) (fun k hk=>(World.ownsRow.lt hr3.w k hk).1);have hB4:=hr4.b.keepB hb4 (Nat.lt_succ_self X);have p1:=hB4.c1;have r1:=hB4.f1)
   | (go_simp;refine (hC _).mono ?_;rintro e w3 ⟨rfl,b3⟩;have b3':Below w.heap.size w w3:=((Below.refl _ w).drew).trans b3;have hr3:=h.on b3';have c1:=hr3.b.c1;have d1:=hr3.b.f1;have hr4:=hr3.on (((Below.refl _ w3).alloc (Nat.le_refl _) (.cells #[.string ⟨t.toArray⟩,.int .i64 (k:Int)] 347)));have c2:=hr4.b.c1;have d2:=hr4.b.f1))
 all_goals (
  have hne:vv.ownBlock=none∨vv.ownBlock≠(Value.slice a W.length cap).ownBlock:=by
   cases hq:vv.ownBlock with
   | none=>exact .inl rfl
   | some g=>exact .inr (fun e=>h.a g hq e.symm)
  have hv4:=World.ownsRow.kept hr4.v hg4 hne
  have hbb:Below X w w4:=((b3'.mono (Nat.le_of_lt h.lt)).alloc (Nat.le_of_lt hr3.lt) _).trans (hb4.mono (Nat.le_succ X))
  go_end0
  refine ⟨⟨_,rfl⟩,⟨_,hB4.set1 _,ownsRow_setCell_below hv4 (Nat.lt_succ_self X) _,?_,fun g hg e=>?_⟩,hbb.setCell (Nat.le_refl X) _⟩
  ·refine ownsRow_setCell_below ?_ (Nat.lt_succ_self X) _
   rw [List.reverse_cons,cels2_app]
   have e:cels2 [(t,k)]=cel2 (t,k):=by simp [cels2]
   rw [e]
   exact ho6
  ·rcases hat with q | q
   ·exact h.a g hg (q.symm.trans e)
   ·have hlt:=(World.ownsRow.lt hr3.v g hg).2
    have:some g=some (w3.alloc (.cells #[.string ⟨t.toArray⟩,.int .i64 (k:Int)] 347)).heap.size:=e.symm.trans q
    simp at this
    omega)
end Go.Proofs.YtfjdceknbdmhpaaGreatDoor
