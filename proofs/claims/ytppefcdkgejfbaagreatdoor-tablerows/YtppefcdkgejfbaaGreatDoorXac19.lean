import Derived.Test.YtppefcdkgejfbaaGreatDoorXac14
import Derived.Test.YtppefcdkgejfbaaGreatDoorXac05
import Derived.Deep.LoopGhost
import Derived.Test.YtppefcdkgejfbaaGreatDoorXac18
import Derived.Test.YtppefcdkgejfbaaGreatDoorXac15
import Derived.Test.YtppefcdkgejfbaaGreatDoorXac12
import Derived.Test.YtppefcdkgejfbaaGreatDoorXac03
import Derived.Test.YtppefcdkgejfbaaGreatDoorXac06
import Derived.Test.YtppefcdkgejfbaaGreatDoorXac02
set_option maxRecDepth 100000
set_option maxHeartbeats 32000000
namespace Go.Proofs.YtppefcdkgejfbaaGreatDoor
open Go.RowKit Go.Lib
set_option linter.unusedSimpArgs false
set_option linter.unusedVariables false
attribute [local go_sem ↓] Go.wp_at_zero Go.wp_at_succ
theorem Tryz.infoPS:(Tryz.prog.info? 184).map (fun i=>(i.zero,i.size,i.bytes))=some (some (.pointer none),1,8):=by kernel_rfl
theorem cstr_res {w4:World}{R:Nat}{a b c d e f:Value}{tmps:Array Value}(hR:Bn w4 R [a,b,c,d,e,f]) (ht:tmps.getD 2 undef=.pointer (some ⟨R,0,none⟩)):(results Tryz.f57 tmps).run Tryz.prog w4=.ok (.agg #[a,b,c,d,e,f]) w4:=by
 have ht':tmps[2]?.getD undef=.pointer (some ⟨R,0,none⟩):=by simpa using ht
 have c0:=(hR 0 _ rfl).1
 have c1:=(hR 1 _ rfl).1
 have c2:=(hR 2 _ rfl).1
 have c3:=(hR 3 _ rfl).1
 have c4:=(hR 4 _ rfl).1
 have c5:=(hR 5 _ rfl).1
 simp [results,Tryz.results57,go_sem,ht',c0,c1,c2,c3,c4,c5]
theorem own_formP {w:World}{base e size:Nat}{v:Value}{n:Nat}{xs:List Value}(h:w.ownsRow base e size v n xs):∃ a cap,v=.slice a n cap/\n<=cap/\cap<=maxLen:=by
 rcases h.2 with ⟨h1,h2⟩|⟨g,cap,cur,h1,_,_,h3,h4,_⟩
 ·exact ⟨none,0,by rw [h1,h2],by omega,by simp [maxLen]⟩
 ·exact ⟨_,_,h1,h3,h4⟩
def stG (d:Nat) (c:ChG d):ChG d:=((c.1.1,(0,0)),c.2.1,c.2.2.1.map spV,c.2.2.2.map (stS d))
theorem last_ofP {α:Type}{l:List α}(h:l≠[]):∃ l' x,l=l'++[x]:=⟨l.dropLast,l.getLast h,(List.dropLast_concat_getLast h).symm⟩
structure ChOk (d:Nat) (c:ChG d):Prop where
 nm:c.1.1.length<=140737488351232
 vl:c.2.2.1.length<=100000
 vn:∀ x∈c.2.2.1,x.1.length<=140737488351232
 fo:FoOk ⟨d,c.2.2.2⟩
 sz:szL d c.2.2.2<=1000000
def RStr (N d:Nat) (c:ChG d) (nm:ByteArray) (vn:Int) (u1:Option Addr) (n u3:Nat) (w':World):Prop:=
 (∀ j u,[.string nm,.int .i64 vn,.int .i64 0,.int .i64 0,.slice u1 n u3][j]?=some u->w'.cell? ⟨N,j,none⟩=some u)/\(∃ s5,w'.cell? ⟨N,5,none⟩=some s5/\RdSp (N+2) w' ⟨d,c.2.2.2⟩ s5)/\RdK (Nw (N+2) w') w' 4 (rVar (Nw (N+2) w') w') (c.2.2.1.map spV) (.slice u1 n u3)/\Bn w' (N+1) [.string ⟨#[]⟩,.int .i64 0,.int .i64 0,.int .i64 0,.slice none 0 0,.slice none 0 0]
theorem strip_start {N d:Nat}{c:ChG d}{nm:ByteArray}{vn:Int}{u1:Option Addr}{n u3:Nat}{w7:World}{s5:Value}(hX:Bn w7 N [.string nm,.int .i64 vn,.int .i64 0,.int .i64 0,.slice u1 n u3,s5]) (hR:Bn w7 (N+1) [.string ⟨#[]⟩,.int .i64 0,.int .i64 0,.int .i64 0,.slice none 0 0,.slice none 0 0]) (hr:RdK (Nw (N+2) w7) w7 4 (rVar (Nw (N+2) w7) w7) (c.2.2.1.map spV) (.slice u1 n u3)) (hs:RdK (fun b=>b < N) w7 11 (rSt d (fun b=>b < N) w7) c.2.2.2 s5) (hf:FoOk ⟨d,c.2.2.2⟩) (hN:N+2<=w7.heap.size) :
  PInv N (RStr N d c nm vn u1 n u3) (fun b=>b=w7.heap.size) (w7.alloc (.cells #[.pointer (some ⟨N,5,none⟩)] 184)) (.slice (some ⟨w7.heap.size,0,none⟩) 1 1) [((N,5),⟨d,c.2.2.2⟩)]:=by
 have hal:=(Below.refl w7.heap.size w7).alloc Nat.le.refl (.cells #[.pointer (some ⟨N,5,none⟩)] 184)
 have hX8:=hX.on hal
 have hR8:=hR.on hal
 have hsz:(w7.alloc (.cells #[.pointer (some ⟨N,5,none⟩)] 184)).heap.size=w7.heap.size+1:=by simp
 have hrow:=World.ownsRow_lit (e:=184) (base:=N) (size:=1) w7 #[.pointer (some ⟨N,5,none⟩)] 1 (by omega) (by simp [maxLen]) (by simp)
 have hr8:=hr.stay kp_var (ok':=fun b=>Nw (N+2) (w7.alloc (.cells #[.pointer (some ⟨N,5,none⟩)] 184)) b/\b < w7.heap.size) (w':=w7.alloc (.cells #[.pointer (some ⟨N,5,none⟩)] 184)) (fun b hb hl=>⟨⟨(hb.to hb.1 (hal.block b hl)).1,hl⟩,hal.block b hl⟩)
 have hs8:=hs.stay (kp_st d) (ok':=fun b=>b < N) (w':=w7.alloc (.cells #[.pointer (some ⟨N,5,none⟩)] 184)) (fun b hb hl=>⟨hb,hal.block b hl⟩)
 generalize w7.alloc (.cells #[.pointer (some ⟨N,5,none⟩)] 184)=w8 at *
 refine ⟨by simpa [pdV,pdA] using hrow,fun p hp=>?_,List.pairwise_singleton _ _,fun w' hA hrd=>?_,fun b hb=>?_,fun g hg=>?_,by omega⟩
 ·have:p=((N,5),⟨d,c.2.2.2⟩):=by simpa using hp
  subst this
  obtain ⟨c5,f5⟩:=hX8 5 _ rfl
  exact ⟨Nat.le_refl _,by show N < _;omega,f5,by show ¬ N=_;omega,hf,s5,c5,hs8⟩
 ·obtain ⟨v,h1,h2⟩:=hrd _ List.mem_cons_self
  refine ⟨fun j u hu=>?_,⟨v,h1,h2⟩,hr8.stay kp_var (fun b hb hl=>hb.1.to hb.1.1 (hA.block b hl (by show ¬ b=_;omega) (fun p hp=>by
   have:p=((N,5),⟨d,c.2.2.2⟩):=by simpa using hp
   subst this
   show N≠b
   have:=hb.1.1
   omega))),hR8.blk (hA.block _ (by omega) (by show ¬ N+1=_;omega) (fun p hp=>by
   have:p=((N,5),⟨d,c.2.2.2⟩):=by simpa using hp
   subst this
   show N≠N+1
   omega))⟩
  have hj:j < 5:=(List.getElem?_eq_some_iff.1 hu).1
  rw [hA.cell N j (by omega) (by show ¬ N=_;omega) (fun p hp=>by
   have:p=((N,5),⟨d,c.2.2.2⟩):=by simpa using hp
   subst this
   intro e
   have:5=j:=congrArg Prod.snd e
   omega)]
  refine (hX8 j u ?_).1
  match j,hj with
  | 0,_=>exact hu
  | 1,_=>exact hu
  | 2,_=>exact hu
  | 3,_=>exact hu
  | 4,_=>exact hu
 ·have:b=w7.heap.size:=hb
  omega
 ·simp only [Value.ownBlock,Option.some.injEq] at hg
  exact hg.symm
theorem strip_nw {ok:Nat->Prop}{w:World}{d:Nat}{c:ChG d}{v:Value}(h:RdC ok w d c v) (hok:ChOk d c) :
  Calls Tryz.prog 57 #[v] w fun e w'=>∃ u,e=.returned u/\RdC (Nw w.heap.size w') w' d (stG d c) u/\Below w.heap.size w w':=by
 obtain ⟨ip,hip,hip0,hip1,hip2⟩:=info_parts Tryz.infoPS
 obtain ⟨sv,ss,rfl,hv,hs⟩:=h
 obtain ⟨a,cap,rfl,hlc,hcm⟩:=hv.form
 obtain ⟨p4,p6,rfl,_⟩:=hs.form
 have HV:=mkHid hv
 have HS:=mkHid hs
 obtain ⟨nm,hnm⟩:∃ nv:ByteArray,⟨c.1.1.toArray⟩=nv:=⟨_,rfl⟩
 have hz1:nm.size<=140737488351232:=by rw [<- hnm];show c.1.1.toArray.size<=_;simpa using hok.nm
 obtain ⟨n,hn⟩:∃ n,c.2.2.1.length=n:=⟨_,rfl⟩
 obtain ⟨i,hi⟩:∃ n,c.2.2.2.length=n:=⟨_,rfl⟩
 obtain ⟨vn,hvn⟩:∃ x,c.2.1=x:=⟨_,rfl⟩
 obtain ⟨ln,hln⟩:∃ x,c.1.2.1=x:=⟨_,rfl⟩
 obtain ⟨co,hco⟩:∃ x,c.1.2.2=x:=⟨_,rfl⟩
 rw [show sV c.1.1=.string nm from by unfold sV;rw [hnm],hvn,hln,hco,hi,hn]
 rw [hi] at HS
 rw [hn] at HV
 have HOK:=mkHid hok
 have HN:Hid (c.2.2.1.length=n):=hn
 have HE:Hid (∀ (w':World) (u1:Option Addr) (u3:Nat) (s5:Value),RdK (Nw w.heap.size w') w' 4 (rVar (Nw w.heap.size w') w') (c.2.2.1.map spV) (.slice u1 n u3)->RdSp w.heap.size w' ⟨d,c.2.2.2⟩ s5->RdC (Nw w.heap.size w') w' d (stG d c) (.agg #[.string nm,.int .i64 vn,.int .i64 0,.int .i64 0,.slice u1 n u3,s5])):=by
  intro w' u1 u3 s5 h1 h2
  refine ⟨_,_,?_,h1,h2⟩
  show _=Value.agg #[sV c.1.1,.int .i64 c.2.1,.int .i64 0,.int .i64 0,_,_]
  rw [show sV c.1.1=.string nm from by unfold sV;rw [hnm],hvn]
 clear hv hs hok hnm hn hi hvn hln hco hcm hlc
 have g1:=fun w1=>pClone_any nm w1 hz1
 have hal:Below w.heap.size w ((w.alloc (.cells #[.string nm,.int .i64 vn,.int .i64 ln,.int .i64 co,.slice a n cap,.slice p4 i p6] 42)).alloc (.cells #[.string ⟨#[]⟩,.int .i64 0,.int .i64 0,.int .i64 0,.slice none 0 0,.slice none 0 0] 42)):=((Below.refl w.heap.size w).alloc Nat.le.refl _).alloc (by simp) _
 have hX:Bn ((w.alloc (.cells #[.string nm,.int .i64 vn,.int .i64 ln,.int .i64 co,.slice a n cap,.slice p4 i p6] 42)).alloc (.cells #[.string ⟨#[]⟩,.int .i64 0,.int .i64 0,.int .i64 0,.slice none 0 0,.slice none 0 0] 42)) w.heap.size [.string nm,.int .i64 vn,.int .i64 ln,.int .i64 co,.slice a n cap,.slice p4 i p6]:=(Bn.new w [.string nm,.int .i64 vn,.int .i64 ln,.int .i64 co,.slice a n cap,.slice p4 i p6] 42 _ rfl).on ((Below.refl _ _).alloc Nat.le.refl _)
 have hR:Bn ((w.alloc (.cells #[.string nm,.int .i64 vn,.int .i64 ln,.int .i64 co,.slice a n cap,.slice p4 i p6] 42)).alloc (.cells #[.string ⟨#[]⟩,.int .i64 0,.int .i64 0,.int .i64 0,.slice none 0 0,.slice none 0 0] 42)) (w.heap.size+1) [.string ⟨#[]⟩,.int .i64 0,.int .i64 0,.int .i64 0,.slice none 0 0,.slice none 0 0]:=Bn.new (w.alloc (.cells #[.string nm,.int .i64 vn,.int .i64 ln,.int .i64 co,.slice a n cap,.slice p4 i p6] 42)) [.string ⟨#[]⟩,.int .i64 0,.int .i64 0,.int .i64 0,.slice none 0 0,.slice none 0 0] 42 _ (by simp)
 have hsz:w.heap.size+2<=((w.alloc (.cells #[.string nm,.int .i64 vn,.int .i64 ln,.int .i64 co,.slice a n cap,.slice p4 i p6] 42)).alloc (.cells #[.string ⟨#[]⟩,.int .i64 0,.int .i64 0,.int .i64 0,.slice none 0 0,.slice none 0 0] 42)).heap.size:=by simp
 go_enter Tryz.func57,Tryz.ntmps57
 go_upto_region 1 with fail
 generalize ((w.alloc (.cells #[.string nm,.int .i64 vn,.int .i64 ln,.int .i64 co,.slice a n cap,.slice p4 i p6] 42)).alloc (.cells #[.string ⟨#[]⟩,.int .i64 0,.int .i64 0,.int .i64 0,.slice none 0 0,.slice none 0 0] 42))=wx at *
 obtain ⟨c0,e0⟩:=hX 0 _ rfl
 go_upto_region 2 with (first
  | (go_at_call 13;refine (g1 _).mono ?_;rintro e w1 ⟨rfl,b1⟩;have hX1:=hX.on b1;obtain ⟨x0,y0⟩:=hX1 0 _ rfl))
 have hX2:=hX1.set (i:=0) (by simp) (.string nm)
 have hR2:=(hR.on b1).far (X:=w.heap.size) (i:=0) (by omega) (.string nm)
 have hB2:Below w.heap.size w (w1.setCell ⟨w.heap.size,0,none⟩ (.string nm)):=(hal.trans (b1.mono (by omega))).setCell Nat.le.refl _
 have hs2:w.heap.size+2<=(w1.setCell ⟨w.heap.size,0,none⟩ (.string nm)).heap.size:=by simpa using Nat.le_trans hsz b1.size
 clear hX hR hX1 x0 y0 c0 e0 b1 hal hsz g1
 generalize w1.setCell ⟨w.heap.size,0,none⟩ (.string nm)=w2 at *
 obtain ⟨a1,q1⟩:=hX2 2 _ rfl
 obtain ⟨a2,q2⟩:=hX2 3 _ rfl
 go_upto_region 3 with fail
 have hX3:=(hX2.set (i:=2) (by simp) (.int .i64 0)).set (i:=3) (by simp) (.int .i64 0)
 have hR3:=(hR2.far (X:=w.heap.size) (i:=2) (by omega) (.int .i64 0)).far (X:=w.heap.size) (i:=3) (by omega) (.int .i64 0)
 have hB3:Below w.heap.size w ((w2.setCell ⟨w.heap.size,2,none⟩ (.int .i64 0)).setCell ⟨w.heap.size,3,none⟩ (.int .i64 0)):=(hB2.setCell (p:=⟨w.heap.size,2,none⟩) Nat.le.refl _).setCell (p:=⟨w.heap.size,3,none⟩) Nat.le.refl _
 have hs3:w.heap.size+2<=((w2.setCell ⟨w.heap.size,2,none⟩ (.int .i64 0)).setCell ⟨w.heap.size,3,none⟩ (.int .i64 0)).heap.size:=by simpa using hs2
 clear hX2 hR2 hB2 hs2 a1 q1 a2 q2
 generalize (w2.setCell ⟨w.heap.size,2,none⟩ (.int .i64 0)).setCell ⟨w.heap.size,3,none⟩ (.int .i64 0)=w3 at *
 have hE:Calls Tryz.prog 79 #[.slice a n cap,.func (.func 80) #[] #[]] w3 fun e w'=>∃ u1 u3,e=.returned (.slice u1 n u3)/\RdK (Nw w3.heap.size w') w' 4 (rVar (Nw w3.heap.size w') w') (c.2.2.1.map spV) (.slice u1 n u3)/\Below w3.heap.size w3 w':=by
  refine (eachVar_any (HV.out.stay kp_var (ok':=ok) (w':=w3) (fun b hb hl=>⟨hb,hB3.block b hl⟩)) HOK.out.vl HOK.out.vn).mono ?_
  rintro e w' ⟨u,h1,h2,h3⟩
  obtain ⟨u1,u3,rfl,_⟩:=h2.form
  rw [List.length_map,HN.out] at h1 h2
  exact ⟨u1,u3,h1,h2,h3⟩
 obtain ⟨c4,e4⟩:=hX3 4 _ rfl
 go_upto_region 4 with (first
  | (go_at_call 79;refine hE.mono ?_;rintro e w4 ⟨u1,u3,rfl,hr,b4⟩;have hX4:=hX3.on b4;obtain ⟨x4,y4⟩:=hX4 4 _ rfl))
 have hX5:Bn (w4.setCell ⟨w.heap.size,4,none⟩ (.slice u1 n u3)) w.heap.size [.string nm,.int .i64 vn,.int .i64 0,.int .i64 0,.slice u1 n u3,.slice p4 i p6]:=hX4.set (i:=4) (by simp) (.slice u1 n u3)
 have hR5:=(hR3.on b4).far (X:=w.heap.size) (i:=4) (by omega) (.slice u1 n u3)
 have hB5:Below w.heap.size w (w4.setCell ⟨w.heap.size,4,none⟩ (.slice u1 n u3)):=(hB3.trans (b4.mono (by omega))).setCell Nat.le.refl _
 have hs5:w.heap.size+2<=(w4.setCell ⟨w.heap.size,4,none⟩ (.slice u1 n u3)).heap.size:=by simpa using Nat.le_trans hs3 b4.size
 have hr5:=hr.stay kp_var (ok':=Nw (w.heap.size+2) (w4.setCell ⟨w.heap.size,4,none⟩ (.slice u1 n u3))) (w':=w4.setCell ⟨w.heap.size,4,none⟩ (.slice u1 n u3)) (fun b hb hl=>hb.to (by have:=hb.1;omega) (Below.heap_setCell _ _ _ _ (fun e=>by have e2:b=w.heap.size:=e;have:=hb.1;omega)))
 clear hX3 hR3 hX4 x4 y4 c4 e4 b4 hB3 hs3 hr hE
 generalize w4.setCell ⟨w.heap.size,4,none⟩ (.slice u1 n u3)=w5 at *
 have hst:=strip_start (c:=c) hX5 hR5 hr5 (HS.out.stay (kp_st d) (ok':=fun b=>b < w.heap.size) (w':=w5) (fun b hb hl=>⟨hl,hB5.block b hl⟩)) HOK.out.fo hs5
 have hb6:Below w.heap.size w (w5.alloc (.cells #[.pointer (some ⟨w.heap.size,5,none⟩)] 184)):=hB5.alloc (by omega) _
 have HST:=mkHid hst
 clear hst hX5 hR5 hr5 hB5 hs5 HV HS
 go_wp2
 go_loopg [3] 1000000 (fun gn v wr=>∃ (P:List Pd) (X:Nat->Prop),Hid (PInv w.heap.size (RStr w.heap.size d c nm vn u1 n u3) X wr v P)/\Hid ((P.map szF).sum<=gn/\gn<=1000000)/\Below w.heap.size w wr)
 case atStart=>
  refine ⟨_,_,HST,⟨?_,Nat.le_refl _⟩,hb6⟩
  show szL d c.2.2.2+0<=1000000
  have:=HOK.out.sz
  omega
 case round=>
  obtain ⟨P,X,hI,hM,hb⟩:=hrel
  by_cases he:P=[]
  ·subst he
   obtain ⟨ra,rc,rfl⟩:=rowV_nil hI.out.row
   obtain ⟨hc5,⟨s5,hs5,hrs⟩,hrv,hRb⟩:=hI.out.wnd.end
   obtain ⟨y1,y3,hy,_⟩:=hrs.form
   rw [List.length_map] at hy
   subst hy
   obtain ⟨y2,hy2⟩:∃ y2,c.2.2.2.length=y2:=⟨_,rfl⟩
   simp only [hy2] at hs5 hrs
   have k0:=hc5 0 _ rfl
   have k1:=hc5 1 _ rfl
   have k2:=hc5 2 _ rfl
   have k3:=hc5 3 _ rfl
   have k4:=hc5 4 _ rfl
   have hfin:=HE.out (putL wr (w.heap.size+1) 0 [.string nm,.int .i64 vn,.int .i64 0,.int .i64 0,.slice u1 n u3,.slice y1 y2 y3]) u1 u3 (.slice y1 y2 y3) (hrv.stay kp_var (fun b hb hl=>hb.to (by have:=hb.1;omega) (putL_heap _ _ _ _ _ (by have:=hb.1;omega)))) (hrs.stay (kp_st d) (fun b hb hl=>hb.to (by have:=hb.1;omega) (putL_heap _ _ _ _ _ (by have:=hb.1;omega))))
   have hbz:=putL_below [.string nm,.int .i64 vn,.int .i64 0,.int .i64 0,.slice u1 n u3,.slice y1 y2 y3] wr (w.heap.size+1) 0 hb (by omega)
   obtain ⟨r0,f0⟩:=hRb 0 _ rfl
   obtain ⟨r1,f1⟩:=hRb 1 _ rfl
   obtain ⟨r2,f2⟩:=hRb 2 _ rfl
   obtain ⟨r3,f3⟩:=hRb 3 _ rfl
   obtain ⟨r4,f4⟩:=hRb 4 _ rfl
   obtain ⟨r5,f5⟩:=hRb 5 _ rfl
   have hRz:=(((((hRb.set (i:=0) (by simp) (.string nm)).set (i:=1) (by simp) (.int .i64 vn)).set (i:=2) (by simp) (.int .i64 0)).set (i:=3) (by simp) (.int .i64 0)).set (i:=4) (by simp) (.slice u1 n u3)).set (i:=5) (by simp) (.slice y1 y2 y3)
   clear hI hM hrs hrv hc5
   go_wp2
   exact bodyPost_ret (cstr_res hRz rfl) rfl ⟨_,rfl,hfin,hbz⟩
  ·obtain ⟨P',p,rfl⟩:=last_ofP he
   obtain ⟨dd,l,hI2,hszp⟩:=hI.out.deep
   obtain ⟨pp,hpp⟩:∃ x,p.1=x:=⟨_,rfl⟩
   rw [hpp] at hI2
   obtain ⟨pb,po⟩:=pp
   have hm:=hM.out
   rw [List.map_append,List.sum_append,List.map_singleton,List.sum_singleton,hszp] at hm
   have hpl:P'.length<=1000000:=by
    have:P'.length<=(P'.map szF).sum:=szF_len P'
    omega
   obtain ⟨o1,o2,o3,o4,o5,u0,o6,o7⟩:=hI2.ok _ (List.mem_append_right _ List.mem_cons_self)
   have o1:w.heap.size<=pb:=o1
   have o2:pb < wr.heap.size:=o2
   have o3:wr.frozen? ⟨pb,po,none⟩=false:=o3
   have o6:wr.cell? ⟨pb,po,none⟩=some u0:=o6
   obtain ⟨s1,s3,rfl,_⟩:=o7.form
   have hrow:=hI2.row
   rw [List.map_append,List.length_append,List.map_singleton,List.length_singleton] at hrow
   obtain ⟨g,cap',rfl,hcap,hcm,hgb,hgl,hcell,hpop⟩:=rowV_pop (by simp) hrow
   have hcell:wr.cell? ⟨g,P'.length,none⟩=some (.pointer (some ⟨pb,po,none⟩)):=hcell
   have hXg:=hI2.x2 g rfl
   have hgp:g≠pb:=fun e=>o4 (e ▸ hXg)
   have hsz2:w.heap.size+2<=wr.heap.size:=hI2.big
   have hcall:Calls Tryz.prog 81 #[.slice s1 l.length s3,.func (.func 82) #[] #[]] wr fun e w'=>e=.returned (.slice (some ⟨wr.heap.size,0,none⟩) l.length l.length)/\Hid (RowG w' wr.heap.size 11 l.length (rHf dd (fun b=>b < w.heap.size) wr) l)/\Below wr.heap.size wr w'/\wr.heap.size < w'.heap.size:=eachSt_any o7 o5.1 (fun s hs=>(o5.2 s hs).1)
   have hll:l.length<=100000:=o5.1
   have HI2:=mkHid hI2
   have HPOP:=mkHid hpop
   have HM2:Hid ((P'.map szF).sum+szL (dd+1) l<=gk/\gk<=1000000):=hm
   obtain ⟨m,hml⟩:∃ m,P'.length=m:=⟨_,rfl⟩
   obtain ⟨nl,hnl⟩:∃ m,l.length=m:=⟨_,rfl⟩
   rw [hml] at hcell hcap hpl ⊢
   rw [hnl] at hcall hll o6
   have HML:Hid (P'.length=m):=hml
   have HNL:Hid (l.length=nl):=hnl
   clear hI hM hI2 hm hrow hpop he hml hnl o5 o7 hszp hXg
   have i1:((m:Int)+1 > 0):=by omega
   have i3:(0:Int)<=(m:Int):=by omega
   have i4:(m:Int)<=(cap':Int):=by omega
   have i5:(m:Int) < (m:Int)+1:=by omega
   go_upto_region 8 with (first
    | (go_at_call 81;refine hcall.mono ?_;rintro e w6 ⟨rfl,hu,b6,hG6⟩))
   have G1:=(b6.cell (p:=⟨g,m,none⟩) hgl).trans hcell
   have Q1:=(b6.cell (p:=⟨pb,po,none⟩) o2).trans o6
   have Q2:=(b6.frozen (p:=⟨pb,po,none⟩) o2).trans o3
   go_upto_region 9 with fail
   obtain ⟨w7,hw7⟩:∃ x,w6.setCell ⟨pb,po,none⟩ (.slice (some ⟨wr.heap.size,0,none⟩) nl nl)=x:=⟨_,rfl⟩
   have hs7:w7.heap.size=w6.heap.size:=by rw [<- hw7];simp
   have hb7:Below w.heap.size w w7:=by rw [<- hw7];exact (hb.trans (b6.mono hb.size)).setCell o1 _
   have hrow7:w7.ownsRow w.heap.size 184 1 (.slice (some ⟨g,0,none⟩) m cap') m (P'.map pdV):=by
    have h1:=own_on HPOP.out b6 Nat.le.refl
    rw [HML.out] at h1
    rw [<- hw7]
    refine ownsRow_keep h1 (fun g' hg'=>?_)
    have:g=g':=Option.some.inj hg'
    subst this
    exact Below.heap_setCell _ _ _ _ (fun e=>hgp e)
   rw [hw7]
   have HW7:=mkHid hw7
   obtain ⟨GB,hGB⟩:∃ x,wr.heap.size=x:=⟨_,rfl⟩
   rw [hGB]
   have HGB:=mkHid hGB
   have HU:=mkHid hu
   clear hw7 hGB hcell o6 o3 G1 Q1 Q2 hcall hu
   have hr0:Hid (w7.ownsRow w.heap.size 184 1 (.slice (some ⟨g,0,none⟩) m cap') (m+0) ((P'++(kidC wr.heap.size dd 0 l).take 0).map pdV)):=by
    show w7.ownsRow _ _ _ _ _ _
    rw [List.take_zero,List.append_nil]
    exact hrow7
   have hsw7:w.heap.size<=w7.heap.size:=hb7.size
   clear hrow7
   go_wp2
   go_loopw [3,43] (fun v3 ix wr=>∃ (j:Nat),j<=nl/\ix=.int .i64 (j:Int)/\Hid (wr.ownsRow w.heap.size 184 1 v3 (m+j) ((P'++(kidC GB dd 0 l).take j).map pdV))/\Hid (Fr w7 wr (.slice (some ⟨g,0,none⟩) m cap') v3)) (fun _ ix _=>nl - (RowKit.intOf ix).toNat)
   case atStart=>exact ⟨0,Nat.zero_le _,rfl,by rw [<- HGB.out];exact hr0,Fr.of (Below.refl w7.heap.size w7) Nat.le.refl _⟩
   case round=>
    obtain ⟨wo,hwo⟩:∃ x,x=wr:=⟨_,rfl⟩
    clear hr0
    obtain ⟨j,hj,rfl,hrj,hfj⟩:=hrel
    obtain ⟨ra,rc,rfl,hrl,hrm⟩:=own_formP hrj.out
    have hws:=hfj.out.grown.size
    by_cases hjl:j < nl
    ·have i6:(j:Int) < (nl:Int):=by omega
     have i7:(0:Int)<=(j:Int):=by omega
     have hjll:j < l.length:=by rw [HNL.out];exact hjl
     have hkj:(kidC GB dd 0 l).take (j+1)=(kidC GB dd 0 l).take j++[((GB,j*11+10),⟨dd,l[j].2⟩)]:=by
      rw [List.take_succ_eq_append_getElem (by rw [kid_len];exact hjll),kid_get 0 dd l j hjll,Nat.zero_add]
     have hxs:(P'++(kidC GB dd 0 l).take (j+1)).map pdV=(P'++(kidC GB dd 0 l).take j).map pdV++[(.pointer (some ⟨GB,j*11+10,none⟩))]:=by
      rw [hkj,<- List.append_assoc,List.map_append];rfl
     go_wp2_with (first
      | (at_builtin;refine wpList_append_at _ rfl _ _ 185 185 rfl w.heap.size 184 ip (.pointer none) 1 8 Tryz.underlying185 hip hip0 hip1 hip2 rfl (.slice ra (m+j) rc) (m+j) ((P'++(kidC GB dd 0 l).take j).map pdV) rfl (World.ownsRow.alloc hrj.out _) _ 1 [(.pointer (some ⟨GB,j*11+10,none⟩))] rfl (src_row Tryz.underlying185 _ [(.pointer (some ⟨GB,j*11+10,none⟩))] rfl (by simp [Value.oneCell'])) 1 (.inr (by omega)) Nat.le.refl (by unfold maxLen;omega) (by simp;omega) ?_;intro vb wb hown hgr hat)
      | fail)
     have hfr:Hid (Fr w7 wb (.slice (some ⟨g,0,none⟩) m cap') vb):=by
      have h1:Fr wr (wr.alloc (.cells #[.pointer (some ⟨GB,j*11+10,none⟩)] 184)) (.slice ra (m+j) rc) (.slice ra (m+j) rc):=Fr.of ((Below.refl wr.heap.size wr).alloc Nat.le.refl _) Nat.le.refl _
      have h2:Fr (wr.alloc (.cells #[.pointer (some ⟨GB,j*11+10,none⟩)] 184)) wb (.slice ra (m+j) rc) vb:=⟨hgr,fun g' hg'=>by
       rcases hat with e|e
       ·exact .inl (e ▸ hg')
       ·rw [e] at hg'
        have:_=g':=Option.some.inj hg'
        exact .inr (by omega)⟩
      exact (hfj.out.trans h1).trans h2
     have hown2:Hid (wb.ownsRow w.heap.size 184 1 vb (m+(j+1)) ((P'++(kidC GB dd 0 l).take (j+1)).map pdV)):=by
      show wb.ownsRow _ _ _ _ _ _
      rw [hxs]
      exact hown
     clear hown hgr hat hrj hfj hxs hkj
     go_wp2
     go_roundw
     case rel=>exact ⟨j+1,hjl,by go_num,hown2,hfr⟩
     case measure=>simp [RowKit.intOf];omega
    ·have i6:¬ (j:Int) < (nl:Int):=by omega
     have hjn:j=nl:=by omega
     subst hjn
     have hfull:(kidC GB dd 0 l).take j=kidC GB dd 0 l:=List.take_of_length_le (by rw [kid_len,HNL.out];exact Nat.le_refl _)
     have hrf:=hrj.out
     rw [hfull] at hrf
     have hF:=hfj.out
     have hlen:(P'++kidC GB dd 0 l).length=m+j:=by rw [List.length_append,kid_len,HML.out,HNL.out]
     have hrf2:wr.ownsRow w.heap.size 184 1 (.slice ra (m+j) rc) (P'++kidC GB dd 0 l).length ((P'++kidC GB dd 0 l).map pdV):=by rw [hlen];exact hrf
     have HU2:=HU.out.out
     rw [<- HNL.out] at HU2
     have hpi:PInv w.heap.size (RStr w.heap.size d c nm vn u1 n u3) (fun b=>X b∨(Value.slice ra (m+j) rc).ownBlock=some b) wr (.slice ra (m+j) rc) (P'++kidC GB dd 0 l):=by
      have hs6:w6.heap.size=w7.heap.size:=hs7.symm
      have hst:=PInv.step (w2:=wr) (v2:=.slice ra (m+j) rc) (g:=g) HI2.out b6 HU2 hG6 rfl (by rw [HGB.out];exact hrf2) (by rw [HNL.out,HW7.out];exact hF.grown) (fun g' hg'=>by
       rcases hF.lies g' hg' with e|e
       ·exact .inl (Option.some.inj e)
       ·exact .inr (by omega)) (fun g' hg'=>(ownsRow_lt hrf2 g' hg').2)
      rw [HGB.out] at hst
      exact hst
     have hbf:Below w.heap.size w wr:=hb7.trans (hF.below hsw7 (fun g' hg'=>by have:g=g':=Option.some.inj hg';omega))
     have hsum:=HM2.out
     have hks:=kid_sz (G:=GB) 0 dd l
     have hsum2:(((P'++kidC GB dd 0 l)).map szF).sum=(P'.map szF).sum+((kidC GB dd 0 l).map szF).sum:=by rw [List.map_append,List.sum_append]
     clear hrj hfj hF hrf hrf2 hfull HU2
     go_wp2
     go_roundg ((P'.map szF).sum+((kidC GB dd 0 l).map szF).sum)
     case measure=>omega
     case rel=>exact ⟨P'++kidC GB dd 0 l,_,hpi,⟨by rw [hsum2];exact Nat.le_refl _,by omega⟩,hbf⟩
theorem rfT_le (d:Nat) (t:T d):(rfT d t).length<=40:=by
 unfold rfT
 split
 ·rename_i hf
  have h1:=rfC_len d t []
  have h2:ndC d t<=40:=by
   unfold fmC at hf
   simp only [Bool.and_eq_true,decide_eq_true_eq] at hf
   exact hf.1.1
  have h3:cnt d t<=40:=by
   have e:=ndC_cnt d t
   omega
  simp only [List.length_nil] at h1
  omega
 ·simp
theorem flM_mem2:∀ (d k:Nat) (l:List (St d)),(∀ t∈l,StOk d t)->(∀ t∈l,StK d t)->∀ y∈flM d k l,StOk y.2.1 y.2.2/\StK y.2.1 y.2.2
 | 0,k,l,_,_,y,hy=>by simp [flM] at hy
 | d+1,k,l,h,h',y,hy=>by
  simp only [flM,List.mem_flatMap,List.mem_cons] at hy
  obtain ⟨t,ht,rfl|hy⟩:=hy
  ·exact ⟨h t ht,h' t ht⟩
  ·exact flM_mem2 d (k+1) t.2 (fun x hx=>(h t ht).2.2 x hx) (fun x hx=>(h' t ht).2 x hx) y hy
theorem flA_ahd (d:Nat) (rc:Int->Nat->List (St d)->List (Int × SgS)) (hrc:∀ (p:Int) (m:Nat) (l:List (St d)),-1<=p->p < m->∀ i (h:i < (rc p m l).length),-1<=((rc p m l)[i]).1/\((rc p m l)[i]).1 < ((m+i:Nat):Int)) (p:Int) (hp : -1<=p):∀ (l:List (St (d+1))) (m:Nat),p < m->∀ i (h:i < (flA d rc p m l).length),-1<=((flA d rc p m l)[i]).1/\((flA d rc p m l)[i]).1 < ((m+i:Nat):Int)
 | [],m,_,i,h=>by simp [flA] at h
 | t :: r,m,hpm,i,h=>by
  have e:flA d rc p m (t :: r)=(p,⟨d+1,t⟩) :: (rc m (m+1) t.2++flA d rc p (m+1+(rc m (m+1) t.2).length) r):=rfl
  have key:∀ (L:List (Int × SgS)),L=(p,(⟨d+1,t⟩:SgS)) :: (rc m (m+1) t.2++flA d rc p (m+1+(rc m (m+1) t.2).length) r)->∀ (h:i < L.length),-1<=(L[i]).1/\(L[i]).1 < ((m+i:Nat):Int):=by
   intro L hL h
   subst hL
   cases i with
   | zero=>exact ⟨hp,by simpa using hpm⟩
   | succ i=>
    simp only [List.getElem_cons_succ]
    have h':i < (rc m (m+1) t.2++flA d rc p (m+1+(rc m (m+1) t.2).length) r).length:=by simpa using h
    by_cases hi:i < (rc m (m+1) t.2).length
    ·rw [List.getElem_append_left hi]
     have:=hrc m (m+1) t.2 (by omega) (by omega) i hi
     omega
    ·rw [List.getElem_append_right (by omega)]
     have hlen:i - (rc m (m+1) t.2).length < (flA d rc p (m+1+(rc m (m+1) t.2).length) r).length:=by rw [List.length_append] at h';omega
     have:=flA_ahd d rc hrc p hp r (m+1+(rc m (m+1) t.2).length) (by omega) (i - (rc m (m+1) t.2).length) hlen
     omega
  exact key _ e h
theorem flP_ahd:∀ (d:Nat) (p:Int) (m:Nat) (l:List (St d)),-1<=p->p < m->∀ i (h:i < (flP d p m l).length),-1<=((flP d p m l)[i]).1/\((flP d p m l)[i]).1 < ((m+i:Nat):Int)
 | 0,_,_,_,_,_,i,h=>by simp [flP] at h
 | d+1,p,m,l,hp,hm,i,h=>flA_ahd d (flP d) (fun p m l h1 h2 i h=>flP_ahd d p m l h1 h2 i h) p hp l m hm i h
theorem fsOk_of {d:Nat}{c:ChG d}(h:ChOk d c) (hk:ChK d c):FsOk c (fsC c):=by
 have hmem:∀ x∈fsC c,StOk x.2.1 x.2.2/\StK x.2.1 x.2.2:=fun x hx=>by
  have h1:x∈flP d (-1) 0 c.2.2.2:=List.mem_of_mem_take hx
  have h2:x.2∈(flM d 0 c.2.2.2).map (fun x=>x.2):=by rw [<- flP_st d 0 (-1) 0];exact List.mem_map.2 ⟨x,h1,rfl⟩
  obtain ⟨y,hy,he⟩:=List.mem_map.1 h2
  have:=flM_mem2 d 0 c.2.2.2 h.fo.2 hk.2.2 y hy
  rw [he] at this
  exact this
 refine ⟨by unfold fsC;rw [List.length_take];omega,fun x hx=>?_,by have:=h.vl;omega,fun x hx=>(hmem x hx).1,fun x hx o ho=>?_,fun i hi=>?_⟩
 ·have hs:=(hmem x hx).1
  obtain ⟨k,e,t⟩:=x
  cases e with
  | zero=>exact Empty.elim t
  | succ e=>
   have h1:t.1.2.2.2.2.length<=100000:=hs.1.2.2.2.1
   show t.1.2.2.2.2.length<=_
   omega
 ·obtain ⟨hs,hsk⟩:=hmem x hx
  obtain ⟨k,e,t⟩:=x
  cases e with
  | zero=>exact Empty.elim t
  | succ e=>
   have ho':o∈t.1.2.2.2.2:=ho
   have hok:OnK o:=hsk.1.2.2.2 o ho'
   have hoo:OnOk o:=hs.1.2.2.2.2 o ho'
   refine ⟨exK_g hok,by have:=rfT_le (gX o.2.1).1 (gX o.2.1).2;unfold rfX;omega,fun s hs'=>⟨⟨(hok.2.2.2 s hs').1.2,(hok.2.2.2 s hs').2⟩,by have:=rfT_le s.2.1 s.2.2;unfold rfX;omega⟩,by have:=hoo.2.2.2.2;omega⟩
 ·have hi':i < (flP d (-1) 0 c.2.2.2).length:=by unfold fsC at hi;rw [List.length_take] at hi;omega
  have:=flP_ahd d (-1) 0 c.2.2.2 (by omega) (by omega) i hi'
  unfold paF
  rw [List.getElem?_eq_getElem hi]
  have e:(fsC c)[i]=(flP d (-1) 0 c.2.2.2)[i]:=by simp only [fsC,List.getElem_take]
  simp only [e]
  omega
theorem rightC_any {ok:Nat->Prop}{w:World}{d:Nat}{c:ChG d}{v:Value}(h:RdC ok w d c v) (hok:∀ b,ok b->b < w.heap.size) (hc:ChOk d c) (hk:ChK d c) (hp:Pow w) :
  Calls Tryz.prog 29 #[v] w fun e w'=>e=.returned (.bool ((ckC c).2 == 0))/\Below w.heap.size w w':=by
 have hck:=fun w1 (b:Below w.heap.size w w1)=>check_any (h.keep (ok':=ok) (w':=w1) (fun b' hb hl=>⟨hb,b.block b' hl⟩)) (fun b' hb=>Nat.lt_of_lt_of_le (hok b' hb) b.size) hc.fo hk (hp.below b) (fsOk_of hc hk)
 obtain ⟨sv,ss,rfl,hv,hs⟩:=h
 obtain ⟨va,vc,rfl,_⟩:=hv.form
 obtain ⟨sa,sc,rfl,_⟩:=hs.form
 obtain ⟨nm,hnm⟩:∃ nm:ByteArray,sV c.1.1=.string nm:=⟨_,rfl⟩
 obtain ⟨nv,hnv⟩:∃ n,c.2.2.1.length=n:=⟨_,rfl⟩
 obtain ⟨ns,hns⟩:∃ n,c.2.2.2.length=n:=⟨_,rfl⟩
 obtain ⟨vn,hvn⟩:∃ x,c.2.1=x:=⟨_,rfl⟩
 obtain ⟨ln,hln⟩:∃ x,c.1.2.1=x:=⟨_,rfl⟩
 obtain ⟨co,hco⟩:∃ x,c.1.2.2=x:=⟨_,rfl⟩
 rw [hnm,hvn,hln,hco,hnv,hns] at hck ⊢
 obtain ⟨a1,ha1⟩:∃ x,(ckC c).1.1=x:=⟨_,rfl⟩
 obtain ⟨a2,ha2⟩:∃ x,(ckC c).1.2=x:=⟨_,rfl⟩
 obtain ⟨a3,ha3⟩:∃ x,(ckC c).2=x:=⟨_,rfl⟩
 rw [ha1,ha2,ha3] at hck
 rw [ha3]
 clear hv hs hnm hnv hns hvn hln hco ha1 ha2 ha3 hc hk
 have hal:Below w.heap.size w (w.alloc (.cells #[.string nm,.int .i64 vn,.int .i64 ln,.int .i64 co,.slice va nv vc,.slice sa ns sc] 42)):=(Below.refl _ _).alloc Nat.le.refl _
 go_enter Tryz.func29,Tryz.ntmps29
 go_wp2_with (first|(go_at_call 52;refine (hck _ hal).mono ?_;rintro e w1 ⟨rfl,b1⟩)|fail)
 go_ret
 have hb1:=hal.trans (b1.mono hal.size)
 exact ⟨rfl,hb1.alloc hb1.size _⟩
theorem smx_ok {x:Sx}(h:SmX x):ExOk (clX x)/\cntX (clX x)<=1000:=by
 obtain ⟨h1,h2⟩:=small_cln (d:=x.1) (t:=x.2) h
 have h3:cntX (clX x)<=1000:=h1
 exact ⟨⟨cl_cln x.1 x.2,by omega,h2⟩,h3⟩
theorem isIf_ne {v:Value}(h:isIf v=true):v≠.nilIface:=fun e=>by rw [e] at h;exact absurd h (by decide)
theorem thO_k {o:OnC}(h:OnS o):OnK (thO o):=by
 obtain ⟨h1,h2,h3,h4,h5⟩:=h
 refine ⟨by show o.1.length<=_;omega,by show o.2.2.1.length<=_;omega,fun hg=>?_,fun s hs=>?_⟩
 ·have hg2:(o.2.1.1 && isIf (exX o.2.1.2))=true:=hg
  rw [Bool.and_eq_true] at hg2
  obtain ⟨q1,q2⟩:=smx_ok h3
  exact ⟨q1,q2,by show exX (clX o.2.1.2)≠_;rw [exX_cl];exact isIf_ne hg2.2⟩
 ·obtain ⟨s',hs',rfl⟩:=List.mem_map.1 (show s∈o.2.2.2.1.map thT from hs)
  obtain ⟨q1,q2⟩:=h5 s' hs'
  obtain ⟨q3,q4⟩:=smx_ok q2
  exact ⟨⟨by show s'.1.length<=_;omega,q3⟩,q4⟩
theorem thO_ok {o:OnC}(h:OnS o):OnOk (thO o):=by
 obtain ⟨k1,k2,k3,k4⟩:=thO_k h
 exact ⟨k1,k2,fun hg=>(k3 hg).1,fun s hs=>(k4 s hs).1,by show (o.2.2.2.1.map thT).length<=_;rw [List.length_map];have:=h.2.2.2.1;omega⟩
theorem thS_k:∀ (d:Nat) (t:St d),SmS d t->StK d (thS d t)
 | 0,t,_=>Empty.elim t
 | d+1,t,h=>by
  obtain ⟨⟨h1,h2,h3,h4,h5⟩,h6⟩:=h
  refine ⟨⟨by show t.1.1.1.length<=_;omega,by show t.1.2.2.1.1.length<=_;omega,by show t.1.2.2.1.2.length<=_;omega,fun o ho=>?_⟩,fun x hx=>?_⟩
  ·obtain ⟨o',ho',rfl⟩:=List.mem_map.1 (show o∈t.1.2.2.2.2.map thO from ho)
   exact thO_k (h5 o' ho')
  ·obtain ⟨x',hx',rfl⟩:=List.mem_map.1 (show x∈t.2.map (thS d) from hx)
   exact thS_k d x' (h6 x' hx')
theorem thS_ok:∀ (d:Nat) (t:St d),SmS d t->totS d [t]<=400->StOk d (thS d t)
 | 0,t,_,_=>Empty.elim t
 | d+1,t,h,ht=>by
  obtain ⟨⟨h1,h2,h3,h4,h5⟩,h6⟩:=h
  have ht2:totS d t.2<=400:=by
   have e:totS (d+1) [t]=(1+totS d t.2)+0:=rfl
   omega
  refine ⟨⟨by show t.1.1.1.length<=_;omega,by show t.1.2.2.1.1.length<=_;omega,by show t.1.2.2.1.2.length<=_;omega,by show (t.1.2.2.2.2.map thO).length<=_;rw [List.length_map];omega,fun o ho=>?_⟩,?_,fun x hx=>?_⟩
  ·obtain ⟨o',ho',rfl⟩:=List.mem_map.1 (show o∈t.1.2.2.2.2.map thO from ho)
   exact thO_ok (h5 o' ho')
  ·show (t.2.map (thS d)).length<=_
   rw [List.length_map]
   match d,t.2,ht2 with
   | 0,[],_=>simp
   | 0,x :: _,_=>exact Empty.elim x
   | d+1,l,hl=>have:=tot_len l;omega
  ·obtain ⟨x',hx',rfl⟩:=List.mem_map.1 (show x∈t.2.map (thS d) from hx)
   refine thS_ok d x' (h6 x' hx') ?_
   match d,t.2,x',hx',ht2 with
   | 0,_,x',_,_=>exact Empty.elim x'
   | d+1,l,x',hx',hl=>
    have e:∀ (l:List (St (d+1))) (y:St (d+1)),y∈l->totS (d+1) [y]<=totS (d+1) l:=fun l=>by
     induction l with
     | nil=>intro y hy;cases hy
     | cons z r ih=>
      intro y hy
      have e1:totS (d+1) (z :: r)=(1+totS d z.2)+totS (d+1) r:=rfl
      have e2:totS (d+1) [y]=(1+totS d y.2)+0:=rfl
      rcases List.mem_cons.1 hy with rfl|hy
      ·omega
      ·have:=ih y hy;omega
    have:=e l x' hx'
    omega
theorem sz_tot:∀ (d:Nat) (l:List (St d)),szL d (l.map (thS d))<=totS d l+1
 | 0,l=>Nat.le_refl _
 | d+1,l=>by
  show ((l.map (thS (d+1))).map (fun t:St (d+1)=>szL d t.2)).sum+1<=(l.map (fun t:St (d+1)=>1+totS d t.2)).sum+1
  rw [List.map_map]
  induction l with
  | nil=>simp
  | cons x r ih=>
   rw [List.map_cons,List.map_cons,List.sum_cons,List.sum_cons]
   have h1:=sz_tot d x.2
   have h2:((fun t:St (d+1)=>szL d t.2) ∘ thS (d+1)) x=szL d (x.2.map (thS d)):=rfl
   omega
theorem tot_one:∀ {d:Nat}{l:List (St d)}{t:St d},t∈l->totS d [t]<=totS d l
 | 0,_,t,_=>Empty.elim t
 | d+1,z :: r,t,h=>by
  have e1:totS (d+1) (z :: r)=(1+totS d z.2)+totS (d+1) r:=rfl
  have e2:totS (d+1) [t]=(1+totS d t.2)+0:=rfl
  rcases List.mem_cons.1 h with rfl|h
  ·omega
  ·have:=tot_one h;omega
theorem chK_th {d:Nat}{c:ChD d}(h:SmCh d c) (hw:WfC d c):ChK d (thC d c):=by
 obtain ⟨h1,h2,h3,h4⟩:=h
 refine ⟨by show c.1.1.length<=_;omega,fun x hx=>hw.2.1 x hx,fun t ht=>?_⟩
 obtain ⟨t',ht',rfl⟩:=List.mem_map.1 (show t∈c.2.2.2.map (thS d) from ht)
 exact thS_k d t' (h4 t' ht')
theorem tot_length:∀ {d:Nat}(l:List (St d)),l.length<=totS d l
 | 0,[]=>Nat.le_refl _
 | 0,x :: _=>Empty.elim x
 | d+1,l=>tot_len l
theorem chOk_th {d:Nat}{c:ChD d}(h:SmCh d c) (hw:WfC d c):ChOk d (thC d c):=by
 obtain ⟨h1,h2,h3,h4⟩:=h
 refine ⟨by show c.1.1.length<=_;omega,by show c.2.2.1.length<=_;omega,fun x hx=>hw.2.1 x hx,⟨?_,fun t ht=>?_⟩,?_⟩
 ·show (c.2.2.2.map (thS d)).length<=_
  rw [List.length_map]
  have:=tot_length c.2.2.2
  omega
 ·obtain ⟨t',ht',rfl⟩:=List.mem_map.1 (show t∈c.2.2.2.map (thS d) from ht)
  exact thS_ok d t' (h4 t' ht') (Nat.le_trans (tot_one ht') h3)
 ·show szL d (c.2.2.2.map (thS d))<=_
  have:=sz_tot d c.2.2.2
  omega
def vrL (l:List (List UInt8 × Int × Pl)):List Vr:=l.map (fun x=>((⟨x.1.toArray⟩:ByteArray),x.2.1))
theorem Tryz.infoVr:(Tryz.prog.info? 108).map (fun i=>(i.zero,i.size,i.bytes))=some (some (.agg #[.string ⟨#[]⟩,.int .i64 0]),2,24):=by kernel_rfl
theorem own_rdV {w:World}{base:Nat}{a:Option Addr}{n c:Nat}{vs:List Vr}(h:w.ownsRow base 108 2 (.slice a n c) n (celI vs)) (hn:vs.length=n):RdV w (.slice a n c) vs:=by
 subst hn
 have hc:=fun g=>World.ownsRow.cells h (g:=g)
 rcases h.2 with ⟨h1,h2⟩|⟨g,cap,cur,h1,hb,hg,hnc,hcm,hcs,htake⟩
 ·simp only [Value.slice.injEq] at h1
  obtain ⟨rfl,h3,rfl⟩:=h1
  exact ⟨none,0,rfl,by omega,by simp [maxLen],fun _=>List.eq_nil_of_length_eq_zero h2,fun x hx=>by cases hx⟩
 ·simp only [Value.slice.injEq] at h1
  obtain ⟨rfl,_,rfl⟩:=h1
  refine ⟨some ⟨g,0,none⟩,c,rfl,hnc,hcm,fun e=>by (cases e),fun x hx i hi=>?_⟩
  obtain rfl:=Option.some.inj hx
  obtain ⟨k1,k2⟩:=celI_at vs i hi
  exact ⟨hc g rfl _ _ k1,hc g rfl _ _ k2⟩
theorem varC_at {ok:Nat->Prop}{w:World}{l:List (List UInt8 × Int × Pl)}{a:Option Addr}{n cap:Nat}(h:RdK ok w 4 (rVar ok w) l (.slice a n cap)) (j:Nat) (hj:j < l.length):∃ (b off:Nat) (x0:ByteArray) (x1 x2 x3:Int),a=some ⟨b,off,none⟩/\b < w.heap.size/\Hid (x0=⟨(l[j]).1.toArray⟩/\x1=(l[j]).2.1)/\∀ i u,[.string x0,.int .i64 x1,.int .i64 x2,.int .i64 x3][i]?=some u->w.cell? ⟨b,off+j*4+i,none⟩=some u:=by
 obtain ⟨a1,cap1,he,h1,h2,h3⟩:=h
 simp only [Value.slice.injEq] at he
 obtain ⟨rfl,rfl,rfl⟩:=he
 obtain ⟨b,off,cs,ha,_,hb,_,hr,hc⟩:=h3 j hj
 have hr':cs=varV l[j]:=hr
 subst hr'
 exact ⟨b,off,_,_,_,_,ha,hb,⟨rfl,rfl⟩,hc⟩
theorem without_any {ok:Nat->Prop}{w:World}{l:List (List UInt8 × Int × Pl)}{v:Value}(h:RdK ok w 4 (rVar ok w) l v) (hl:l.length<=1000000) (hnm:∀ x∈l,x.1.length<=140737488351232) :
  Calls Tryz.prog 14 #[v] w fun e w'=>∃ a n c,e=.returned (.slice a n c)/\Hid (w'.ownsRow w.heap.size 108 2 (.slice a n c) n (celI (vrL l)))/\Hid (n=l.length)/\Below w.heap.size w w':=by
 obtain ⟨va,vc,rfl,hlc,hcm⟩:=h.form
 unfold maxLen at hcm
 have HC:=hidOf h
 obtain ⟨n,hn⟩:∃ n,l.length=n:=⟨_,rfl⟩
 rw [hn] at hlc hl HC ⊢
 have HN:=hidOf hn
 have HNM:=hidOf hnm
 obtain ⟨i0,hi,hz0,hz1,hz2⟩:=info_parts Tryz.infoVr
 clear h hn hnm
 go_enter Tryz.func14,Tryz.ntmps14
 go_wp2
 go_loopw [3,8] (fun t ix wr=>∃ (j:Nat) (ta:Option Addr) (tc:Nat),j<=n/\ix=.int .i64 (j:Int)/\t=.slice ta j tc/\Hid (wr.ownsRow w.heap.size 108 2 (.slice ta j tc) j (celI (vrL (l.take j))))/\Below w.heap.size w wr) (fun _ ix _=>n - (RowKit.intOf ix).toNat)
 case atStart=>exact ⟨0,none,0,Nat.zero_le _,rfl,rfl,World.ownsRow_nil _ _ _ _,Below.refl _ _⟩
 case round=>
  obtain ⟨j,ta,tc,hj,rfl,rfl,HO,hb⟩:=hrel
  by_cases hlt:j < n
  ·have hjl:j < l.length:=by rw [HN.out];exact hlt
   obtain ⟨b,off,x0,x1,x2,x3,rfl,hbl,HX,hc⟩:=varC_at HC.out j hjl
   have C0:=(hb.cell (p:=⟨b,off+j*4+0,none⟩) hbl).trans (hc 0 _ rfl)
   have C1:=(hb.cell (p:=⟨b,off+j*4+1,none⟩) hbl).trans (hc 1 _ rfl)
   have C2:=(hb.cell (p:=⟨b,off+j*4+2,none⟩) hbl).trans (hc 2 _ rfl)
   have C3:=(hb.cell (p:=⟨b,off+j*4+3,none⟩) hbl).trans (hc 3 _ rfl)
   rw [Nat.add_zero] at C0
   have hx0:x0.size<=140737488351232:=by
    rw [HX.out.1]
    show (l[j]).1.toArray.size<=_
    simpa using HNM.out _ (List.getElem_mem hjl)
   have hcl:=fun w1=>pClone_any x0 w1 hx0
   have HS:Hid (vrL (l.take (j+1))=vrL (l.take j)++[(x0,x1)]):=by
    show _=_
    rw [List.take_succ_eq_append_getElem hjl,HX.out.1,HX.out.2]
    simp only [vrL,List.map_append,List.map_cons,List.map_nil]
   have i1:(j:Int) < (n:Int):=by omega
   have i2:(0:Int)<=(j:Int):=by omega
   have hal:Below wr.heap.size wr (wr.alloc (.cells #[.string x0,.int .i64 x1,.int .i64 x2,.int .i64 x3] 92)):=(Below.refl _ _).alloc Nat.le.refl _
   have hY:=Bn.new wr [.string x0,.int .i64 x1,.int .i64 x2,.int .i64 x3] 92 _ rfl
   clear hc
   go_upto_region 5 with fail
   clear C0 C1 C2 C3
   have hby:=hb.trans (hal.mono hb.size)
   have HOY:Hid ((wr.alloc (.cells #[.string x0,.int .i64 x1,.int .i64 x2,.int .i64 x3] 92)).ownsRow w.heap.size 108 2 (.slice ta j tc) j (celI (vrL (l.take j)))):=ownsRow_keep HO.out (fun g hg=>hal.block g (ownsRow_lt HO.out g hg).2)
   obtain ⟨Y,hYe⟩:∃ Y,wr.heap.size=Y:=⟨_,rfl⟩
   rw [hYe] at hY ⊢
   have hYb:w.heap.size<=Y:=by rw [<- hYe];exact hb.size
   generalize (wr.alloc (.cells #[.string x0,.int .i64 x1,.int .i64 x2,.int .i64 x3] 92))=wy at *
   have HYL:Hid (∀ g,(Value.slice ta j tc).ownBlock=some g->g < Y):=fun g hg=>by rw [<- hYe];exact (ownsRow_lt HO.out g hg).2
   clear hYe hal
   have z0:=(hY 0 _ rfl).1
   have z1:=(hY 1 _ rfl).1
   have lY:=hY.lt
   have hB:=Below.refl wy.heap.size wy
   have y0:=z0
   have y1:=z1
   have HYO:=hidOf (fun g (hg:(Value.slice ta j tc).ownBlock=some g)=>ownsRow_lt HOY.out g hg)
   go_region_held_law (fun w'=>w'.cell? ⟨Y,0,none⟩=some (.string x0)/\w'.cell? ⟨Y,1,none⟩=some (.int .i64 x1))
    ((refine ⟨?_,?_⟩<;>(repeat (with_reducible first|exact y0|exact y1|refine cellB_dr ?_|refine cellB_al ?_))<;>done))
    (first
     | (go_at_call 13;(with_reducible refine (hcl _).mono ?_);rintro e w3 ⟨rfl,b3⟩;(first|have hB:=Below.nxtd hB b3|have hB:=Below.nxt hB b3);have y0:=(hB.cell (p:=⟨Y,0,none⟩) lY).trans z0;have y1:=(hB.cell (p:=⟨Y,1,none⟩) lY).trans z1;have hal3:Below w3.heap.size w3 (w3.alloc (.cells #[.string x0,.int .i64 x1] 108)):=(Below.refl _ _).alloc Nat.le.refl _;have hB3:=hB.trans (hal3.mono hB.size);have o2:=ownsRow_keep HOY.out (fun g hg=>hB3.block g (HYO.out g hg).2);have s2:=src_row (P:=Tryz.prog) (t:=31) (e:=108) Tryz.underlying31 w3 [.string x0,.int .i64 x1] rfl (by simp [Value.oneCell']);have hb3:=hby.trans (hB3.mono hby.size);have hb3s:=hb3.size)
     | (refine step_append_at _ rfl _ _ 31 31 rfl w.heap.size 108 i0 (.agg #[.string ⟨#[]⟩,.int .i64 0]) 2 24 Tryz.underlying31 hi hz0 hz1 hz2 rfl _ j _ rfl o2 _ 1 [.string x0,.int .i64 x1] rfl s2 1 (.inr (by omega)) Nat.le.refl (by unfold maxLen;omega) hb3s ?_;intro v9 w9 ho9 hg9 hat9;have hb9:=hb3.grown hg9 hb3s (fun k hk=>(ownsRow_lt o2 k hk).1);have hkY:=hg9.block Y (World.block_lt_of_cell? _ _ (cellB_al y0)) (fun e=>by have h9:=HYL.out Y e.symm;omega);have y0:=keep_cell (p:=⟨Y,0,none⟩) hkY (cellB_al y0);have y1:=keep_cell (p:=⟨Y,1,none⟩) hkY (cellB_al y1))
     | fail)
   all_goals (
    have ho7:Hid (w9.ownsRow w.heap.size 108 2 v9 (j+1) (celI (vrL (l.take (j+1))))):=by
     rw [HS.out,celI_app]
     exact ho9
    obtain ⟨a9,c9,rfl⟩:∃ a c,v9=.slice a (j+1) c:=by
     rcases ho7.out.2 with ⟨h1,h2⟩|⟨g,cap,cur,h1,_⟩
     ·omega
     ·exact ⟨_,_,h1⟩
    clear ho9 o2 s2
    (try simp only [List.getElem_toArray,List.getElem_cons_succ,List.getElem_cons_zero,List.set_cons_succ,List.set_cons_zero,List.setIfInBounds_toArray])
    go_wp2
    go_roundw
    case rel=>exact ⟨j+1,a9,c9,hlt,by go_num,rfl,ho7,hb9⟩
    case measure=>simp [RowKit.intOf];omega)
  ·have i1:¬ (j:Int) < (n:Int):=by omega
   have hjn:l.take j=l:=List.take_of_length_le (by rw [HN.out];omega)
   rw [hjn] at HO
   have hje:j=n:=by omega
   subst hje
   go_wp2
   go_ret
   exact ⟨_,_,_,rfl,HO,rfl,hb⟩
theorem rightN_any {ok:Nat->Prop}{w:World}{d:Nat}{c:ChD d}{v:Value}(hsm:SmCh d c) (hwf:WfC d c) (h:RdC ok w d (thC d c) v) (hok:∀ b,ok b->b < w.heap.size) (hp:Pow w) (L:List Nd) (hL:L=ndsM (flM d 0 (thC d c).2.2.2)) :
  Calls Tryz.prog 12 #[v] w fun e w'=>∃ a n k q,e=.returned (.tuple #[.slice a n k,.bool q])/\Hid (q=(decide (L≠[]) && ((ckC (thC d c)).2 == 0)))/\(q=true->Hid (RdNd (fun b=>w.heap.size<=b) w' L (.slice a n k)/\fmB L=true))/\Below w.heap.size w w':=by
 obtain ⟨e0,e1,e2,e3,e4,e5,e6,e7,e8,e9,rfl⟩:=rdC_letT h
 have hal:Below w.heap.size w (w.alloc (.cells #[.string e0,.int .i64 e1,.int .i64 e2,.int .i64 e3,.slice e4 e5 e6,.slice e7 e8 e9] 42)):=(Below.refl w.heap.size w).alloc Nat.le.refl _
 have hX:Bn (w.alloc (.cells #[.string e0,.int .i64 e1,.int .i64 e2,.int .i64 e3,.slice e4 e5 e6,.slice e7 e8 e9] 42)) w.heap.size [.string e0,.int .i64 e1,.int .i64 e2,.int .i64 e3,.slice e4 e5 e6,.slice e7 e8 e9]:=Bn.new w [.string e0,.int .i64 e1,.int .i64 e2,.int .i64 e3,.slice e4 e5 e6,.slice e7 e8 e9] 42 _ rfl
 have h1:=fun w1 (b:Below w.heap.size w w1)=>nodes_th hsm (h.keep (ok':=ok) (w':=w1) (fun k hk hl=>⟨hk,b.block k hl⟩)) (fun k hk=>Nat.lt_of_lt_of_le (hok k hk) b.size)
 have h2:=fun w1 (b:Below w.heap.size w w1)=>rightC_any (h.keep (ok':=ok) (w':=w1) (fun k hk hl=>⟨hk,b.block k hl⟩)) (fun k hk=>Nat.lt_of_lt_of_le (hok k hk) b.size) (chOk_th hsm hwf) (chK_th hsm hwf) (hp.below b)
 obtain ⟨R,hR⟩:∃ R,((ckC (thC d c)).2 == 0)=R:=⟨_,rfl⟩
 simp only [hR] at h2 ⊢
 simp only [<- hL] at h1
 have h1a:=h1 _ hal
 clear h1 h hok hp hsm hwf hR hL
 go_enter Tryz.func12,Tryz.ntmps12
 go_upto_region 1 with fail
 generalize (w.alloc (.cells #[.string e0,.int .i64 e1,.int .i64 e2,.int .i64 e3,.slice e4 e5 e6,.slice e7 e8 e9] 42))=wx at *
 have x0:=(hX 0 _ rfl).1
 have x1:=(hX 1 _ rfl).1
 have x2:=(hX 2 _ rfl).1
 have x3:=(hX 3 _ rfl).1
 have x4:=(hX 4 _ rfl).1
 have x5:=(hX 5 _ rfl).1
 go_upto_region 2 with (first
  | (go_at_call 28;refine h1a.mono ?_;rintro e w1 ⟨ra,rn,rc,l,rfl,hN,hF,hln,hle,b1⟩)
  | fail)
 have hb1:=hal.trans (b1.mono hal.size)
 have hX1:=hX.on b1
 have h2a:=h2 _ hb1
 subst hle
 have HNF:Hid (RdNd (fun b=>w.heap.size<=b) w1 l (.slice ra rn rc)/\fmB l=true):=⟨hN.stay kp_nd (fun b hb _=>⟨Nat.le_trans hal.size hb,rfl⟩),hF⟩
 have HLN:=hidOf hln
 clear x0 x1 x2 x3 x4 x5 h1a h2 hX hN hF hln b1
 have x0:=(hX1 0 _ rfl).1
 have x1:=(hX1 1 _ rfl).1
 have x2:=(hX1 2 _ rfl).1
 have x3:=(hX1 3 _ rfl).1
 have x4:=(hX1 4 _ rfl).1
 have x5:=(hX1 5 _ rfl).1
 by_cases h0:rn=0
 ·have hl0:Hid (decide (l≠[])=false):=by
   show _=_
   have:l=[]:=List.eq_nil_of_length_eq_zero (by rw [HLN.out,h0])
   simp [this]
  subst h0
  clear HLN h2a
  go_wp2
  go_ret2
  exact ⟨_,_,_,false,rfl,by show _=_;rw [hl0.out];rfl,fun e=>(by cases e),hb1⟩
 ·have hl0:Hid (decide (l≠[])=true):=by
   show _=_
   have:l≠[]:=fun e=>h0 (by rw [<- HLN.out,e];rfl)
   simp [this]
  have i0:¬ (rn:Int)=0:=by omega
  have i1:((rn:Int) == 0)=false:=beq_eq_false_iff_ne.2 i0
  clear HLN h0
  cases R with
  | false=>
   go_wp2_with (first
    | (go_at_call 29;refine h2a.mono ?_;rintro e w2 ⟨rfl,b2⟩)
    | fail)
   go_ret2
   exact ⟨_,_,_,false,rfl,by show _=_;rw [hl0.out];rfl,fun e=>(by cases e),hb1.trans (b2.mono hb1.size)⟩
  | true=>
   go_wp2_with (first
    | (go_at_call 29;refine h2a.mono ?_;rintro e w2 ⟨rfl,b2⟩)
    | fail)
   go_ret2
   exact ⟨_,_,_,true,rfl,by show _=_;rw [hl0.out];rfl,fun _=>⟨HNF.out.1.on kp_nd b2,HNF.out.2⟩,hb1.trans (b2.mono hb1.size)⟩
theorem tcode_any {w:World}(t0:ByteArray) (t1:Int) (t2:Option Addr) (t3 t4:Nat) (t5:Option Addr) (t6 t7:Nat) (t8:Option Addr) (t9 t10:Nat) (t11:Option Addr) (t12 t13:Nat) {vs:List Vr}(hv:RdV w (.slice t5 t6 t7) vs) (hl:vs.length<=10000) {x:Sx}(hx:ExOk x) (hc:cntX x<=1000) :
  Calls Tryz.prog 39 #[.agg #[.string t0,.int .i64 t1,.slice t2 t3 t4,.slice t5 t6 t7,.slice t8 t9 t10,.slice t11 t12 t13],exX x] w fun e w'=>∃ a n c,e=.returned (.slice a n c)/\Below w.heap.size w w':=by
 have hal:Below w.heap.size w (w.alloc (.cells #[.string t0,.int .i64 t1,.slice t2 t3 t4,.slice t5 t6 t7,.slice t8 t9 t10,.slice t11 t12 t13] 35)):=(Below.refl _ _).alloc Nat.le.refl _
 have hcd:=codeP_any (d:=x.1) (t:=x.2) hx.1 hc hx.2.2 (hv.below hal Nat.le.refl) hl
 have hxv:exV x.1 x.2=exX x:=rfl
 rw [hxv] at hcd
 obtain ⟨E,hE⟩:∃ E,(cdE vs x.1 x.2).2=E:=⟨_,rfl⟩
 rw [hE] at hcd
 rcases exX_form x with hq|⟨u,y,hq⟩
 all_goals (
  rw [hq] at hcd ⊢
  clear hq hxv hE hv
  go_enter Tryz.func39,Tryz.ntmps39
  go_wp2_with (first
   | (go_at_call 10;refine hcd.mono ?_;rintro e w1 ⟨ca,cn,cc,rfl,_,b1⟩)
   | fail)
  go_ret
  exact ⟨_,_,_,rfl,hal.trans (b1.mono hal.size)⟩)
theorem Tryz.infoAsg:(Tryz.prog.info? 122).map (fun i=>(i.zero,i.size,i.bytes))=some (some (.agg #[.int .i64 0,.slice none 0 0]),2,32):=by kernel_rfl
theorem cellB_set {w:World}{X Y i j:Nat}{v u:Value}(hne:Y≠X) (h:w.cell? ⟨X,i,none⟩=some v):(w.setCell ⟨Y,j,none⟩ u).cell? ⟨X,i,none⟩=some v:=keep_cell (p:=⟨X,i,none⟩) (Below.heap_setCell _ _ _ _ (fun e=>hne e.symm)) h
theorem row_res {w:World}{R:Nat}{a b c d e f g:Value}{tmps:Array Value}(hR:Bn w R [a,b,c,d,e,f,g]) (ht:tmps.getD 8 undef=.pointer (some ⟨R,0,none⟩)):(results Tryz.f17 tmps).run Tryz.prog w=.ok (.agg #[a,b,c,d,e,f,g]) w:=by
 have ht':tmps[8]?.getD undef=.pointer (some ⟨R,0,none⟩):=by simpa using ht
 have c0:=(hR 0 _ rfl).1
 have c1:=(hR 1 _ rfl).1
 have c2:=(hR 2 _ rfl).1
 have c3:=(hR 3 _ rfl).1
 have c4:=(hR 4 _ rfl).1
 have c5:=(hR 5 _ rfl).1
 have c6:=(hR 6 _ rfl).1
 simp [results,Tryz.results17,go_sem,ht',c0,c1,c2,c3,c4,c5,c6]
