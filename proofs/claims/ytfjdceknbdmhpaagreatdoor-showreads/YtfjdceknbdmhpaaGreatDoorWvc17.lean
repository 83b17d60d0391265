import Derived.Test.YtfjdceknbdmhpaaGreatDoorWvc16
import Derived.Test.YtfjdceknbdmhpaaGreatDoorWvc09
import Derived.Deep.LoopGhost
import Derived.Test.YtfjdceknbdmhpaaGreatDoorWvc04
import Derived.Lib.ParseIntBCases
import Derived.Test.YtfjdceknbdmhpaaGreatDoorWvc10
import Derived.Lib.AtoiAll
import Derived.Test.YtfjdceknbdmhpaaGreatDoorWvc15
/- What the program's Strip does. -/
namespace Go.Proofs.YtfjdceknbdmhpaaGreatDoor
open Go.RowKit Go.Lib
set_option linter.unusedSimpArgs false
set_option linter.unusedVariables false
attribute [local go_sem ↓] Go.wp_at_zero Go.wp_at_succ
theorem Tryz.infoPS:(Tryz.prog.info? 71).map (fun i=>(i.zero,i.size,i.bytes))=some (some (.pointer none),1,8):=by kernel_rfl
theorem cstr_res {w4:World} {R:Nat} {a b c d e f:Value} {tmps:Array Value} (hR:Bn w4 R [a,b,c,d,e,f]) (ht:tmps.getD 2 undef=.pointer (some ⟨R,0,none⟩)):(results Tryz.f16 tmps).run Tryz.prog w4=.ok (.agg #[a,b,c,d,e,f]) w4:=by
 have ht':tmps[2]?.getD undef=.pointer (some ⟨R,0,none⟩):=by simpa using ht
 have c0:=(hR 0 _ rfl).1
 have c1:=(hR 1 _ rfl).1
 have c2:=(hR 2 _ rfl).1
 have c3:=(hR 3 _ rfl).1
 have c4:=(hR 4 _ rfl).1
 have c5:=(hR 5 _ rfl).1
 simp [results,Tryz.results16,go_sem,ht',c0,c1,c2,c3,c4,c5]
theorem own_formP {w:World} {base e size:Nat} {v:Value} {n:Nat} {xs:List Value} (h:w.ownsRow base e size v n xs):∃ a cap,v=.slice a n cap∧n≤cap∧cap≤maxLen:=by
 rcases h.2 with ⟨h1,h2⟩ | ⟨g,cap,cur,h1,_,_,h3,h4,_⟩
 ·exact ⟨none,0,by rw [h1,h2],by omega,by simp [maxLen]⟩
 ·exact ⟨_,_,h1,h3,h4⟩
def stG (d:Nat) (c:ChG d):ChG d:=((c.1.1,(0,0)),c.2.1,c.2.2.1.map spV,c.2.2.2.map (stS d))
theorem last_ofP {α:Type} {l:List α} (h:l≠[]):∃ l' x,l=l'++[x]:=⟨l.dropLast,l.getLast h,(List.dropLast_concat_getLast h).symm⟩
structure ChOk (d:Nat) (c:ChG d):Prop where
 nm:c.1.1.length≤140737488351232
 vl:c.2.2.1.length≤100000
 vn:∀ x∈c.2.2.1,x.1.length≤140737488351232
 fo:FoOk ⟨d,c.2.2.2⟩
 sz:szL d c.2.2.2≤1000000
/-- What there is when all is stripped. -/
def RStr (N d:Nat) (c:ChG d) (nm:ByteArray) (vn:Int) (u1:Option Addr) (n u3:Nat) (w':World):Prop:=
 (∀ j u,[.string nm,.int .i64 vn,.int .i64 0,.int .i64 0,.slice u1 n u3][j]?=some u→w'.cell? ⟨N,j,none⟩=some u)∧(∃ s5,w'.cell? ⟨N,5,none⟩=some s5∧RdSp (N+2) w' ⟨d,c.2.2.2⟩ s5)∧RdK (fun b=>N+2≤b) w' 4 (rVar (fun b=>N+2≤b) w') (c.2.2.1.map spV) (.slice u1 n u3)∧Bn w' (N+1) [.string ⟨#[]⟩,.int .i64 0,.int .i64 0,.int .i64 0,.slice none 0 0,.slice none 0 0]
theorem strip_start {N d:Nat} {c:ChG d} {nm:ByteArray} {vn:Int} {u1:Option Addr} {n u3:Nat} {w7:World} {s5:Value} (hX:Bn w7 N [.string nm,.int .i64 vn,.int .i64 0,.int .i64 0,.slice u1 n u3,s5]) (hR:Bn w7 (N+1) [.string ⟨#[]⟩,.int .i64 0,.int .i64 0,.int .i64 0,.slice none 0 0,.slice none 0 0]) (hr:RdK (fun b=>N+2≤b) w7 4 (rVar (fun b=>N+2≤b) w7) (c.2.2.1.map spV) (.slice u1 n u3)) (hs:RdK (fun b=>b < N) w7 11 (rSt d (fun b=>b < N) w7) c.2.2.2 s5) (hf:FoOk ⟨d,c.2.2.2⟩) (hN:N+2≤w7.heap.size) :
  PInv N (RStr N d c nm vn u1 n u3) (fun b=>b=w7.heap.size) (w7.alloc (.cells #[.pointer (some ⟨N,5,none⟩)] 71)) (.slice (some ⟨w7.heap.size,0,none⟩) 1 1) [((N,5),⟨d,c.2.2.2⟩)]:=by
 have hal:=(Below.refl w7.heap.size w7).alloc (Nat.le_refl _) (.cells #[.pointer (some ⟨N,5,none⟩)] 71)
 have hX8:=hX.on hal
 have hR8:=hR.on hal
 have hsz:(w7.alloc (.cells #[.pointer (some ⟨N,5,none⟩)] 71)).heap.size=w7.heap.size+1:=by simp
 have hrow:=World.ownsRow_lit (e:=71) (base:=N) (size:=1) w7 #[.pointer (some ⟨N,5,none⟩)] 1 (by omega) (by simp [maxLen]) (by simp)
 have hr8:=hr.stay kp_var (ok':=fun b=>N+2≤b∧b < w7.heap.size) (w':=w7.alloc (.cells #[.pointer (some ⟨N,5,none⟩)] 71)) (fun b hb hl=>⟨⟨hb,hl⟩,hal.block b hl⟩)
 have hs8:=hs.stay (kp_st d) (ok':=fun b=>b < N) (w':=w7.alloc (.cells #[.pointer (some ⟨N,5,none⟩)] 71)) (fun b hb hl=>⟨hb,hal.block b hl⟩)
 generalize w7.alloc (.cells #[.pointer (some ⟨N,5,none⟩)] 71)=w8 at *
 refine ⟨by simpa [pdV,pdA] using hrow,fun p hp=>?_,List.pairwise_singleton _ _,fun w' hA hrd=>?_,fun b hb=>?_,fun g hg=>?_,by omega⟩
 ·have:p=((N,5),⟨d,c.2.2.2⟩):=by simpa using hp
  subst this
  obtain ⟨c5,f5⟩:=hX8 5 _ rfl
  exact ⟨Nat.le_refl _,by show N < _;omega,f5,by show ¬ N=_;omega,hf,s5,c5,hs8⟩
 ·obtain ⟨v,h1,h2⟩:=hrd _ List.mem_cons_self
  refine ⟨fun j u hu=>?_,⟨v,h1,h2⟩,hr8.stay kp_var (fun b hb hl=>⟨hb.1,hA.block b hl (by show ¬ b=_;omega) (fun p hp=>by
   have:p=((N,5),⟨d,c.2.2.2⟩):=by simpa using hp
   subst this
   show N≠b
   omega)⟩),hR8.blk (hA.block _ (by omega) (by show ¬ N+1=_;omega) (fun p hp=>by
   have:p=((N,5),⟨d,c.2.2.2⟩):=by simpa using hp
   subst this
   show N≠N+1
   omega))⟩
  have hj:j < 5:=(List.getElem?_eq_some_iff.1 hu).1
  rw [hA.cell N j (by omega) (by show ¬ N=_;omega) (fun p hp=>by
   have:p=((N,5),⟨d,c.2.2.2⟩):=by simpa using hp
   subst this
   intro e
   have:5=j:=congrArg Prod.snd e
   omega)]
  refine (hX8 j u ?_).1
  match j,hj with
  | 0,_=>exact hu
  | 1,_=>exact hu
  | 2,_=>exact hu
  | 3,_=>exact hu
  | 4,_=>exact hu
 ·have:b=w7.heap.size:=hb
  omega
 ·simp only [Value.ownBlock,Option.some.injEq] at hg
  exact hg.symm
set_option maxRecDepth 100000 in
set_option maxHeartbeats 16000000 in
theorem strip_any {ok:Nat→Prop} {w:World} {d:Nat} {c:ChG d} {v:Value} (h:RdC ok w d c v) (hok:ChOk d c) :
  Calls Tryz.prog 16 #[v] w fun e w'=>∃ u,e=.returned u∧RdC (fun b=>w.heap.size≤b) w' d (stG d c) u∧Below w.heap.size w w':=by
 obtain ⟨ip,hip,hip0,hip1,hip2⟩:=info_parts Tryz.infoPS
 obtain ⟨sv,ss,rfl,hv,hs⟩:=h
 obtain ⟨a,cap,rfl,hlc,hcm⟩:=hv.form
 obtain ⟨p4,p6,rfl,_⟩:=hs.form
 have HV:=mkHid hv
 have HS:=mkHid hs
 obtain ⟨nm,hnm⟩:∃ nv:ByteArray,⟨c.1.1.toArray⟩=nv:=⟨_,rfl⟩
 have hz1:nm.size≤140737488351232:=by rw [← hnm];show c.1.1.toArray.size≤_;simpa using hok.nm
 obtain ⟨n,hn⟩:∃ n,c.2.2.1.length=n:=⟨_,rfl⟩
 obtain ⟨i,hi⟩:∃ n,c.2.2.2.length=n:=⟨_,rfl⟩
 obtain ⟨vn,hvn⟩:∃ x,c.2.1=x:=⟨_,rfl⟩
 obtain ⟨ln,hln⟩:∃ x,c.1.2.1=x:=⟨_,rfl⟩
 obtain ⟨co,hco⟩:∃ x,c.1.2.2=x:=⟨_,rfl⟩
 rw [show sV c.1.1=.string nm from by unfold sV;rw [hnm],hvn,hln,hco,hi,hn]
 rw [hi] at HS
 rw [hn] at HV
 have HOK:=mkHid hok
 have HN:Hid (c.2.2.1.length=n):=hn
 have HE:Hid (∀ (w':World) (u1:Option Addr) (u3:Nat) (s5:Value),RdK (fun b=>w.heap.size≤b) w' 4 (rVar (fun b=>w.heap.size≤b) w') (c.2.2.1.map spV) (.slice u1 n u3)→RdSp w.heap.size w' ⟨d,c.2.2.2⟩ s5→RdC (fun b=>w.heap.size≤b) w' d (stG d c) (.agg #[.string nm,.int .i64 vn,.int .i64 0,.int .i64 0,.slice u1 n u3,s5])):=by
  intro w' u1 u3 s5 h1 h2
  refine ⟨_,_,?_,h1,h2⟩
  show _=Value.agg #[sV c.1.1,.int .i64 c.2.1,.int .i64 0,.int .i64 0,_,_]
  rw [show sV c.1.1=.string nm from by unfold sV;rw [hnm],hvn]
 clear hv hs hok hnm hn hi hvn hln hco hcm hlc
 have g1:=fun w1=>pClone_any nm w1 hz1
 have hal:Below w.heap.size w ((w.alloc (.cells #[.string nm,.int .i64 vn,.int .i64 ln,.int .i64 co,.slice a n cap,.slice p4 i p6] 33)).alloc (.cells #[.string ⟨#[]⟩,.int .i64 0,.int .i64 0,.int .i64 0,.slice none 0 0,.slice none 0 0] 33)):=((Below.refl w.heap.size w).alloc (Nat.le_refl _) _).alloc (by simp) _
 have hX:Bn ((w.alloc (.cells #[.string nm,.int .i64 vn,.int .i64 ln,.int .i64 co,.slice a n cap,.slice p4 i p6] 33)).alloc (.cells #[.string ⟨#[]⟩,.int .i64 0,.int .i64 0,.int .i64 0,.slice none 0 0,.slice none 0 0] 33)) w.heap.size [.string nm,.int .i64 vn,.int .i64 ln,.int .i64 co,.slice a n cap,.slice p4 i p6]:=(Bn.new w [.string nm,.int .i64 vn,.int .i64 ln,.int .i64 co,.slice a n cap,.slice p4 i p6] 33 _ rfl).on ((Below.refl _ _).alloc (Nat.le_refl _) _)
 have hR:Bn ((w.alloc (.cells #[.string nm,.int .i64 vn,.int .i64 ln,.int .i64 co,.slice a n cap,.slice p4 i p6] 33)).alloc (.cells #[.string ⟨#[]⟩,.int .i64 0,.int .i64 0,.int .i64 0,.slice none 0 0,.slice none 0 0] 33)) (w.heap.size+1) [.string ⟨#[]⟩,.int .i64 0,.int .i64 0,.int .i64 0,.slice none 0 0,.slice none 0 0]:=Bn.new (w.alloc (.cells #[.string nm,.int .i64 vn,.int .i64 ln,.int .i64 co,.slice a n cap,.slice p4 i p6] 33)) [.string ⟨#[]⟩,.int .i64 0,.int .i64 0,.int .i64 0,.slice none 0 0,.slice none 0 0] 33 _ (by simp)
 have hsz:w.heap.size+2≤((w.alloc (.cells #[.string nm,.int .i64 vn,.int .i64 ln,.int .i64 co,.slice a n cap,.slice p4 i p6] 33)).alloc (.cells #[.string ⟨#[]⟩,.int .i64 0,.int .i64 0,.int .i64 0,.slice none 0 0,.slice none 0 0] 33)).heap.size:=by simp
 go_enter Tryz.func16,Tryz.ntmps16
 go_upto_region 1 with fail
 generalize ((w.alloc (.cells #[.string nm,.int .i64 vn,.int .i64 ln,.int .i64 co,.slice a n cap,.slice p4 i p6] 33)).alloc (.cells #[.string ⟨#[]⟩,.int .i64 0,.int .i64 0,.int .i64 0,.slice none 0 0,.slice none 0 0] 33))=wx at *
 obtain ⟨c0,e0⟩:=hX 0 _ rfl
 go_upto_region 2 with (first
  | (go_at_call 38;refine (g1 _).mono ?_;rintro e w1 ⟨rfl,b1⟩;have hX1:=hX.on b1;obtain ⟨x0,y0⟩:=hX1 0 _ rfl))
 have hX2:=hX1.set (i:=0) (by simp) (.string nm)
 have hR2:=(hR.on b1).far (X:=w.heap.size) (i:=0) (by omega) (.string nm)
 have hB2:Below w.heap.size w (w1.setCell ⟨w.heap.size,0,none⟩ (.string nm)):=(hal.trans (b1.mono (by omega))).setCell (Nat.le_refl _) _
 have hs2:w.heap.size+2≤(w1.setCell ⟨w.heap.size,0,none⟩ (.string nm)).heap.size:=by simpa using Nat.le_trans hsz b1.size
 clear hX hR hX1 x0 y0 c0 e0 b1 hal hsz g1
 generalize w1.setCell ⟨w.heap.size,0,none⟩ (.string nm)=w2 at *
 obtain ⟨a1,q1⟩:=hX2 2 _ rfl
 obtain ⟨a2,q2⟩:=hX2 3 _ rfl
 go_upto_region 3 with fail
 have hX3:=(hX2.set (i:=2) (by simp) (.int .i64 0)).set (i:=3) (by simp) (.int .i64 0)
 have hR3:=(hR2.far (X:=w.heap.size) (i:=2) (by omega) (.int .i64 0)).far (X:=w.heap.size) (i:=3) (by omega) (.int .i64 0)
 have hB3:Below w.heap.size w ((w2.setCell ⟨w.heap.size,2,none⟩ (.int .i64 0)).setCell ⟨w.heap.size,3,none⟩ (.int .i64 0)):=(hB2.setCell (p:=⟨w.heap.size,2,none⟩) (Nat.le_refl _) _).setCell (p:=⟨w.heap.size,3,none⟩) (Nat.le_refl _) _
 have hs3:w.heap.size+2≤((w2.setCell ⟨w.heap.size,2,none⟩ (.int .i64 0)).setCell ⟨w.heap.size,3,none⟩ (.int .i64 0)).heap.size:=by simpa using hs2
 clear hX2 hR2 hB2 hs2 a1 q1 a2 q2
 generalize (w2.setCell ⟨w.heap.size,2,none⟩ (.int .i64 0)).setCell ⟨w.heap.size,3,none⟩ (.int .i64 0)=w3 at *
 have hE:Calls Tryz.prog 39 #[.slice a n cap,.func (.func 40) #[] #[]] w3 fun e w'=>∃ u1 u3,e=.returned (.slice u1 n u3)∧RdK (fun b=>w3.heap.size≤b) w' 4 (rVar (fun b=>w3.heap.size≤b) w') (c.2.2.1.map spV) (.slice u1 n u3)∧Below w3.heap.size w3 w':=by
  refine (eachVar_any (HV.out.stay kp_var (ok':=ok) (w':=w3) (fun b hb hl=>⟨hb,hB3.block b hl⟩)) HOK.out.vl HOK.out.vn).mono ?_
  rintro e w' ⟨u,h1,h2,h3⟩
  obtain ⟨u1,u3,rfl,_⟩:=h2.form
  rw [List.length_map,HN.out] at h1 h2
  exact ⟨u1,u3,h1,h2,h3⟩
 obtain ⟨c4,e4⟩:=hX3 4 _ rfl
 go_upto_region 4 with (first
  | (go_at_call 39;refine hE.mono ?_;rintro e w4 ⟨u1,u3,rfl,hr,b4⟩;have hX4:=hX3.on b4;obtain ⟨x4,y4⟩:=hX4 4 _ rfl))
 have hX5:Bn (w4.setCell ⟨w.heap.size,4,none⟩ (.slice u1 n u3)) w.heap.size [.string nm,.int .i64 vn,.int .i64 0,.int .i64 0,.slice u1 n u3,.slice p4 i p6]:=hX4.set (i:=4) (by simp) (.slice u1 n u3)
 have hR5:=(hR3.on b4).far (X:=w.heap.size) (i:=4) (by omega) (.slice u1 n u3)
 have hB5:Below w.heap.size w (w4.setCell ⟨w.heap.size,4,none⟩ (.slice u1 n u3)):=(hB3.trans (b4.mono (by omega))).setCell (Nat.le_refl _) _
 have hs5:w.heap.size+2≤(w4.setCell ⟨w.heap.size,4,none⟩ (.slice u1 n u3)).heap.size:=by simpa using Nat.le_trans hs3 b4.size
 have hr5:=hr.stay kp_var (ok':=fun b=>w.heap.size+2≤b) (w':=w4.setCell ⟨w.heap.size,4,none⟩ (.slice u1 n u3)) (fun b hb hl=>⟨by omega,Below.heap_setCell _ _ _ _ (fun e=>by have e2:b=w.heap.size:=e;omega)⟩)
 clear hX3 hR3 hX4 x4 y4 c4 e4 b4 hB3 hs3 hr hE
 generalize w4.setCell ⟨w.heap.size,4,none⟩ (.slice u1 n u3)=w5 at *
 have hst:=strip_start (c:=c) hX5 hR5 hr5 (HS.out.stay (kp_st d) (ok':=fun b=>b < w.heap.size) (w':=w5) (fun b hb hl=>⟨hl,hB5.block b hl⟩)) HOK.out.fo hs5
 have hb6:Below w.heap.size w (w5.alloc (.cells #[.pointer (some ⟨w.heap.size,5,none⟩)] 71)):=hB5.alloc (by omega) _
 have HST:=mkHid hst
 clear hst hX5 hR5 hr5 hB5 hs5 HV HS
 go_wp2
 go_loopg [3] 1000000 (fun gn v wr=>∃ (P:List Pd) (X:Nat→Prop),Hid (PInv w.heap.size (RStr w.heap.size d c nm vn u1 n u3) X wr v P)∧Hid ((P.map szF).sum≤gn∧gn≤1000000)∧Below w.heap.size w wr)
 case atStart=>
  refine ⟨_,_,HST,⟨?_,Nat.le_refl _⟩,hb6⟩
  show szL d c.2.2.2+0≤1000000
  have:=HOK.out.sz
  omega
 case round=>
  obtain ⟨P,X,hI,hM,hb⟩:=hrel
  by_cases he:P=[]
  ·subst he
   obtain ⟨ra,rc,rfl⟩:=rowV_nil hI.out.row
   obtain ⟨hc5,⟨s5,hs5,hrs⟩,hrv,hRb⟩:=hI.out.wnd.end
   obtain ⟨y1,y3,hy,_⟩:=hrs.form
   rw [List.length_map] at hy
   subst hy
   obtain ⟨y2,hy2⟩:∃ y2,c.2.2.2.length=y2:=⟨_,rfl⟩
   simp only [hy2] at hs5 hrs
   have k0:=hc5 0 _ rfl
   have k1:=hc5 1 _ rfl
   have k2:=hc5 2 _ rfl
   have k3:=hc5 3 _ rfl
   have k4:=hc5 4 _ rfl
   have hfin:=HE.out (putL wr (w.heap.size+1) 0 [.string nm,.int .i64 vn,.int .i64 0,.int .i64 0,.slice u1 n u3,.slice y1 y2 y3]) u1 u3 (.slice y1 y2 y3) (hrv.stay kp_var (fun b hb hl=>⟨by omega,putL_heap _ _ _ _ _ (by omega)⟩)) (hrs.stay (kp_st d) (fun b hb hl=>⟨by omega,putL_heap _ _ _ _ _ (by omega)⟩))
   have hbz:=putL_below [.string nm,.int .i64 vn,.int .i64 0,.int .i64 0,.slice u1 n u3,.slice y1 y2 y3] wr (w.heap.size+1) 0 hb (by omega)
   obtain ⟨r0,f0⟩:=hRb 0 _ rfl
   obtain ⟨r1,f1⟩:=hRb 1 _ rfl
   obtain ⟨r2,f2⟩:=hRb 2 _ rfl
   obtain ⟨r3,f3⟩:=hRb 3 _ rfl
   obtain ⟨r4,f4⟩:=hRb 4 _ rfl
   obtain ⟨r5,f5⟩:=hRb 5 _ rfl
   have hRz:=(((((hRb.set (i:=0) (by simp) (.string nm)).set (i:=1) (by simp) (.int .i64 vn)).set (i:=2) (by simp) (.int .i64 0)).set (i:=3) (by simp) (.int .i64 0)).set (i:=4) (by simp) (.slice u1 n u3)).set (i:=5) (by simp) (.slice y1 y2 y3)
   clear hI hM hrs hrv hc5
   go_wp2
   exact bodyPost_ret (cstr_res hRz rfl) rfl ⟨_,rfl,hfin,hbz⟩
  ·obtain ⟨P',p,rfl⟩:=last_ofP he
   obtain ⟨dd,l,hI2,hszp⟩:=hI.out.deep
   obtain ⟨pp,hpp⟩:∃ x,p.1=x:=⟨_,rfl⟩
   rw [hpp] at hI2
   obtain ⟨pb,po⟩:=pp
   have hm:=hM.out
   rw [List.map_append,List.sum_append,List.map_singleton,List.sum_singleton,hszp] at hm
   have hpl:P'.length≤1000000:=by
    have:P'.length≤(P'.map szF).sum:=szF_len P'
    omega
   obtain ⟨o1,o2,o3,o4,o5,u0,o6,o7⟩:=hI2.ok _ (List.mem_append_right _ List.mem_cons_self)
   have o1:w.heap.size≤pb:=o1
   have o2:pb < wr.heap.size:=o2
   have o3:wr.frozen? ⟨pb,po,none⟩=false:=o3
   have o6:wr.cell? ⟨pb,po,none⟩=some u0:=o6
   obtain ⟨s1,s3,rfl,_⟩:=o7.form
   have hrow:=hI2.row
   rw [List.map_append,List.length_append,List.map_singleton,List.length_singleton] at hrow
   obtain ⟨g,cap',rfl,hcap,hcm,hgb,hgl,hcell,hpop⟩:=rowV_pop (by simp) hrow
   have hcell:wr.cell? ⟨g,P'.length,none⟩=some (.pointer (some ⟨pb,po,none⟩)):=hcell
   have hXg:=hI2.x2 g rfl
   have hgp:g≠pb:=fun e=>o4 (e ▸ hXg)
   have hsz2:w.heap.size+2≤wr.heap.size:=hI2.big
   have hcall:Calls Tryz.prog 41 #[.slice s1 l.length s3,.func (.func 42) #[] #[]] wr fun e w'=>e=.returned (.slice (some ⟨wr.heap.size,0,none⟩) l.length l.length)∧Hid (RowG w' wr.heap.size 11 l.length (rHf dd (fun b=>b < w.heap.size) wr) l)∧Below wr.heap.size wr w'∧wr.heap.size < w'.heap.size:=eachSt_any o7 o5.1 (fun s hs=>(o5.2 s hs).1)
   have hll:l.length≤100000:=o5.1
   have HI2:=mkHid hI2
   have HPOP:=mkHid hpop
   have HM2:Hid ((P'.map szF).sum+szL (dd+1) l≤gk∧gk≤1000000):=hm
   obtain ⟨m,hml⟩:∃ m,P'.length=m:=⟨_,rfl⟩
   obtain ⟨nl,hnl⟩:∃ m,l.length=m:=⟨_,rfl⟩
   rw [hml] at hcell hcap hpl ⊢
   rw [hnl] at hcall hll o6
   have HML:Hid (P'.length=m):=hml
   have HNL:Hid (l.length=nl):=hnl
   clear hI hM hI2 hm hrow hpop he hml hnl o5 o7 hszp hXg
   have i1:((m:Int)+1 > 0):=by omega
   have i3:(0:Int)≤(m:Int):=by omega
   have i4:(m:Int)≤(cap':Int):=by omega
   have i5:(m:Int) < (m:Int)+1:=by omega
   go_upto_region 8 with (first
    | (go_at_call 41;refine hcall.mono ?_;rintro e w6 ⟨rfl,hu,b6,hG6⟩))
   have G1:=(b6.cell (p:=⟨g,m,none⟩) hgl).trans hcell
   have Q1:=(b6.cell (p:=⟨pb,po,none⟩) o2).trans o6
   have Q2:=(b6.frozen (p:=⟨pb,po,none⟩) o2).trans o3
   go_upto_region 9 with fail
   obtain ⟨w7,hw7⟩:∃ x,w6.setCell ⟨pb,po,none⟩ (.slice (some ⟨wr.heap.size,0,none⟩) nl nl)=x:=⟨_,rfl⟩
   have hs7:w7.heap.size=w6.heap.size:=by rw [← hw7];simp
   have hb7:Below w.heap.size w w7:=by rw [← hw7];exact (hb.trans (b6.mono hb.size)).setCell o1 _
   have hrow7:w7.ownsRow w.heap.size 71 1 (.slice (some ⟨g,0,none⟩) m cap') m (P'.map pdV):=by
    have h1:=own_on HPOP.out b6 (Nat.le_refl _)
    rw [HML.out] at h1
    rw [← hw7]
    refine ownsRow_keep h1 (fun g' hg'=>?_)
    have:g=g':=Option.some.inj hg'
    subst this
    exact Below.heap_setCell _ _ _ _ (fun e=>hgp e)
   rw [hw7]
   have HW7:=mkHid hw7
   obtain ⟨GB,hGB⟩:∃ x,wr.heap.size=x:=⟨_,rfl⟩
   rw [hGB]
   have HGB:=mkHid hGB
   have HU:=mkHid hu
   clear hw7 hGB hcell o6 o3 G1 Q1 Q2 hcall hu
   have hr0:Hid (w7.ownsRow w.heap.size 71 1 (.slice (some ⟨g,0,none⟩) m cap') (m+0) ((P'++(kidC wr.heap.size dd 0 l).take 0).map pdV)):=by
    show w7.ownsRow _ _ _ _ _ _
    rw [List.take_zero,List.append_nil]
    exact hrow7
   have hsw7:w.heap.size≤w7.heap.size:=hb7.size
   clear hrow7
   go_wp2
   go_loopw [3,43] (fun v3 ix wr=>∃ (j:Nat),j≤nl∧ix=.int .i64 (j:Int)∧Hid (wr.ownsRow w.heap.size 71 1 v3 (m+j) ((P'++(kidC GB dd 0 l).take j).map pdV))∧Hid (Fr w7 wr (.slice (some ⟨g,0,none⟩) m cap') v3)) (fun _ ix _=>nl - (RowKit.intOf ix).toNat)
   case atStart=>exact ⟨0,Nat.zero_le _,rfl,by rw [← HGB.out];exact hr0,Fr.of (Below.refl w7.heap.size w7) (Nat.le_refl _) _⟩
   case round=>
    obtain ⟨wo,hwo⟩:∃ x,x=wr:=⟨_,rfl⟩
    clear hr0
    obtain ⟨j,hj,rfl,hrj,hfj⟩:=hrel
    obtain ⟨ra,rc,rfl,hrl,hrm⟩:=own_formP hrj.out
    have hws:=hfj.out.grown.size
    by_cases hjl:j < nl
    ·have i6:(j:Int) < (nl:Int):=by omega
     have i7:(0:Int)≤(j:Int):=by omega
     have hjll:j < l.length:=by rw [HNL.out];exact hjl
     have hkj:(kidC GB dd 0 l).take (j+1)=(kidC GB dd 0 l).take j++[((GB,j*11+10),⟨dd,l[j].2⟩)]:=by
      rw [List.take_succ_eq_append_getElem (by rw [kid_len];exact hjll),kid_get 0 dd l j hjll,Nat.zero_add]
     have hxs:(P'++(kidC GB dd 0 l).take (j+1)).map pdV=(P'++(kidC GB dd 0 l).take j).map pdV++[(.pointer (some ⟨GB,j*11+10,none⟩))]:=by
      rw [hkj,← List.append_assoc,List.map_append];rfl
     go_wp2_with (first
      | (at_builtin;refine wpList_append_at _ rfl _ _ 72 72 rfl w.heap.size 71 ip (.pointer none) 1 8 Tryz.underlying72 hip hip0 hip1 hip2 rfl (.slice ra (m+j) rc) (m+j) ((P'++(kidC GB dd 0 l).take j).map pdV) rfl (World.ownsRow.alloc hrj.out _) _ 1 [(.pointer (some ⟨GB,j*11+10,none⟩))] rfl (src_row Tryz.underlying72 _ [(.pointer (some ⟨GB,j*11+10,none⟩))] rfl (by simp [Value.oneCell'])) 1 (.inr (by omega)) (Nat.le_refl _) (by unfold maxLen;omega) (by simp;omega) ?_;intro vb wb hown hgr hat)
      | fail)
     have hfr:Hid (Fr w7 wb (.slice (some ⟨g,0,none⟩) m cap') vb):=by
      have h1:Fr wr (wr.alloc (.cells #[.pointer (some ⟨GB,j*11+10,none⟩)] 71)) (.slice ra (m+j) rc) (.slice ra (m+j) rc):=Fr.of ((Below.refl wr.heap.size wr).alloc (Nat.le_refl _) _) (Nat.le_refl _) _
      have h2:Fr (wr.alloc (.cells #[.pointer (some ⟨GB,j*11+10,none⟩)] 71)) wb (.slice ra (m+j) rc) vb:=⟨hgr,fun g' hg'=>by
       rcases hat with e | e
       ·exact .inl (e ▸ hg')
       ·rw [e] at hg'
        have:_=g':=Option.some.inj hg'
        exact .inr (by omega)⟩
      exact (hfj.out.trans h1).trans h2
     have hown2:Hid (wb.ownsRow w.heap.size 71 1 vb (m+(j+1)) ((P'++(kidC GB dd 0 l).take (j+1)).map pdV)):=by
      show wb.ownsRow _ _ _ _ _ _
      rw [hxs]
      exact hown
     clear hown hgr hat hrj hfj hxs hkj
     go_wp2
     go_roundw
     case rel=>exact ⟨j+1,hjl,by go_num,hown2,hfr⟩
     case measure=>simp [RowKit.intOf];omega
    ·have i6:¬ (j:Int) < (nl:Int):=by omega
     have hjn:j=nl:=by omega
     subst hjn
     have hfull:(kidC GB dd 0 l).take j=kidC GB dd 0 l:=List.take_of_length_le (by rw [kid_len,HNL.out];exact Nat.le_refl _)
     have hrf:=hrj.out
     rw [hfull] at hrf
     have hF:=hfj.out
     have hlen:(P'++kidC GB dd 0 l).length=m+j:=by rw [List.length_append,kid_len,HML.out,HNL.out]
     have hrf2:wr.ownsRow w.heap.size 71 1 (.slice ra (m+j) rc) (P'++kidC GB dd 0 l).length ((P'++kidC GB dd 0 l).map pdV):=by rw [hlen];exact hrf
     have HU2:=HU.out.out
     rw [← HNL.out] at HU2
     have hpi:PInv w.heap.size (RStr w.heap.size d c nm vn u1 n u3) (fun b=>X b∨(Value.slice ra (m+j) rc).ownBlock=some b) wr (.slice ra (m+j) rc) (P'++kidC GB dd 0 l):=by
      have hs6:w6.heap.size=w7.heap.size:=hs7.symm
      have hst:=PInv.step (w2:=wr) (v2:=.slice ra (m+j) rc) (g:=g) HI2.out b6 HU2 hG6 rfl (by rw [HGB.out];exact hrf2) (by rw [HNL.out,HW7.out];exact hF.grown) (fun g' hg'=>by
       rcases hF.lies g' hg' with e | e
       ·exact .inl (Option.some.inj e)
       ·exact .inr (by omega)) (fun g' hg'=>(ownsRow_lt hrf2 g' hg').2)
      rw [HGB.out] at hst
      exact hst
     have hbf:Below w.heap.size w wr:=hb7.trans (hF.below hsw7 (fun g' hg'=>by have:g=g':=Option.some.inj hg';omega))
     have hsum:=HM2.out
     have hks:=kid_sz (G:=GB) 0 dd l
     have hsum2:(((P'++kidC GB dd 0 l)).map szF).sum=(P'.map szF).sum+((kidC GB dd 0 l).map szF).sum:=by rw [List.map_append,List.sum_append]
     clear hrj hfj hF hrf hrf2 hfull HU2
     go_wp2
     go_roundg ((P'.map szF).sum+((kidC GB dd 0 l).map szF).sum)
     case measure=>omega
     case rel=>exact ⟨P'++kidC GB dd 0 l,_,hpi,⟨by rw [hsum2];exact Nat.le_refl _,by omega⟩,hbf⟩
end Go.Proofs.YtfjdceknbdmhpaaGreatDoor
/- The number that digits spell, as strconv.ParseInt tells it. Math alone. -/
namespace Go.Proofs.YtfjdceknbdmhpaaGreatDoor
open Go.RowKit Go.Lib
set_option linter.unusedSimpArgs false
set_option linter.unusedVariables false
theorem valB_ge:∀ (l:List UInt8) (n:Int),0≤n→l.all dB=true→n≤valB n l
 | [],n,_,_=>Int.le_refl _
 | c :: r,n,hn,h=>by
  simp only [List.all_cons,Bool.and_eq_true] at h
  have hd:48≤c.toNat∧c.toNat≤57:=of_decide_eq_true h.1
  have:=valB_ge r (10*n+((c.toNat:Int) - 48)) (by omega) h.2
  show n≤valB (10*n+((c.toNat:Int) - 48)) r
  omega
theorem parseM:∀ (l:List UInt8) (acc:Nat),l.all dB=true→valB (acc:Int) l≤1000000000→parseUintM (2 ^ 64 - 1) acc l=.ok (valB (acc:Int) l).toNat
 | [],acc,_,_=>by
  show NumEnd.ok acc=.ok ((acc:Int)).toNat
  rw [Int.toNat_natCast]
 | c :: r,acc,h,hb=>by
  simp only [List.all_cons,Bool.and_eq_true] at h
  have hd:48≤c.toNat∧c.toNat≤57:=of_decide_eq_true h.1
  have e:valB (acc:Int) (c :: r)=valB ((acc*10+(c.toNat - 48):Nat):Int) r:=by
   show valB (10*(acc:Int)+((c.toNat:Int) - 48)) r=_
   congr 1
   omega
  rw [e] at hb ⊢
  have hg:=valB_ge r ((acc*10+(c.toNat - 48):Nat):Int) (by omega) h.2
  rw [parseUintM,if_pos hd,if_neg (by omega),if_neg (by omega)]
  exact parseM r _ h.2 hb
theorem parse_num {b:List UInt8} (h:numB b=true):parseIntB 64 b=.ok (valB 0 b):=by
 obtain ⟨h1,h2,h3⟩:=num_len h
 have hall:b.all dB=true:=by
  unfold numB at h
  simp only [Bool.and_eq_true] at h
  simp_all
 cases b with
 | nil=>revert h;decide
 | cons c r=>
  have hc:=hall
  simp only [List.all_cons,Bool.and_eq_true] at hc
  have hd:48≤c.toNat∧c.toNat≤57:=of_decide_eq_true hc.1
  have hp:=parseM (c :: r) 0 hall h3
  rw [parseIntB_plain 64 c r (by omega) (by omega)]
  unfold parseUintB
  rw [if_neg (by simp),hp]
  show signlessC (2 ^ (64 - 1)) (.ok (valB 0 (c :: r)).toNat)=_
  unfold signlessC
  simp only
  rw [if_neg (by omega),Int.toNat_of_nonneg h2]
theorem atoiM:∀ (l:List UInt8) (acc:Nat),l.all dB=true→valB (acc:Int) l≤1000000000→parseUint10 acc l=.ok (valB (acc:Int) l).toNat
 | [],acc,_,_=>by
  show NumEnd.ok acc=.ok ((acc:Int)).toNat
  rw [Int.toNat_natCast]
 | c :: r,acc,h,hb=>by
  simp only [List.all_cons,Bool.and_eq_true] at h
  have hd:48≤c.toNat∧c.toNat≤57:=of_decide_eq_true h.1
  have e:valB (acc:Int) (c :: r)=valB ((acc*10+(c.toNat - 48):Nat):Int) r:=by
   show valB (10*(acc:Int)+((c.toNat:Int) - 48)) r=_
   congr 1
   omega
  rw [e] at hb ⊢
  have hg:=valB_ge r ((acc*10+(c.toNat - 48):Nat):Int) (by omega) h.2
  rw [parseUint10,if_pos hd,if_neg (by omega),if_neg (by omega)]
  exact atoiM r _ h.2 hb
theorem atoi_num {b:List UInt8} (h:numB b=true):atoiAll b=.ok (valB 0 b):=by
 obtain ⟨h1,h2,h3⟩:=num_len h
 have hall:b.all dB=true:=by
  unfold numB at h
  simp only [Bool.and_eq_true] at h
  simp_all
 have hle:valB 0 b≤1000000000:=by
  unfold numB at h
  simp only [Bool.and_eq_true,decide_eq_true_eq] at h
  exact h.2
 cases b with
 | nil=>revert h;decide
 | cons c r=>
  have hd:48≤c.toNat∧c.toNat≤57:=by
   simp only [List.all_cons,Bool.and_eq_true] at hall
   exact of_decide_eq_true hall.1
  have hm:parseMag (c :: r)=.ok (valB 0 (c :: r)).toNat:=by
   unfold parseMag
   rw [if_neg (by simp)]
   exact atoiM (c :: r) 0 hall hle
  have hg:=valB_ge (c :: r) 0 (by omega) hall
  unfold atoiAll
  simp only
  rw [if_neg (show ¬ (c.toNat=43∨c.toNat=45) by omega),hm]
  simp only
  rw [if_neg (by omega),if_neg (by omega),if_neg (by omega)]
  congr 1
  omega
theorem num_small {b:List UInt8} (h:numB b=true):0≤valB 0 b∧valB 0 b≤1000000000:=by
 have hall:b.all dB=true:=by
  unfold numB at h
  simp only [Bool.and_eq_true] at h
  simp_all
 refine ⟨valB_ge b 0 (by omega) hall,?_⟩
 unfold numB at h
 simp only [Bool.and_eq_true,decide_eq_true_eq] at h
 exact h.2
theorem nx_dig {c:UInt8} {r:List UInt8} (h:48≤c.toNat∧c.toNat≤57):(nx (c :: r)).1=(c.toNat:Int):=by
 obtain ⟨t,_,h2,_⟩:=head_small c r
 exact (h2 (by omega)).2
/-- A name is no number, and no sign. -/
theorem name_num {b:List UInt8} (h:nameS b=true):numB b=false:=by
 cases b with
 | nil=>rfl
 | cons c r=>
  unfold nameS at h
  simp only [Bool.and_eq_true] at h
  have hl:=h.1.1
  cases hn:numB (c :: r) with
  | false=>rfl
  | true=>
   have hall:(c :: r).all dB=true:=by
    unfold numB at hn
    simp only [Bool.and_eq_true] at hn
    simp_all
   simp only [List.all_cons,Bool.and_eq_true] at hall
   have hd:48≤c.toNat∧c.toNat≤57:=of_decide_eq_true hall.1
   rw [nx_dig hd,letter_eq] at hl
   simp only [Bool.or_eq_true,Bool.and_eq_true,decide_eq_true_eq] at hl
   omega
theorem seg_head {K:Nat} {seg:List Ru} (h:OneW K seg) {v:Ru} {t:List Ru} (e:seg=v :: t):(nx (byt seg)).1=v.1:=by
 have hr:=h.runes
 have hb:byt seg≠[]:=by
  intro e2
  rw [e2] at hr
  rw [← hr] at e
  cases e
 have:=runes_cons hb
 rw [hr] at this
 have h2:=e.symm.trans this
 injection h2 with h3 h4
 exact (congrArg Prod.fst h3).symm
/-- A word is of kind 1 just if it is a name. -/
theorem kind_name {K:Nat} {seg:List Ru} (h:OneW K seg):K=1↔nameS (byt seg)=true:=by
 rcases h.kind with ⟨k,n⟩ | ⟨k,n⟩ | ⟨k,v,t,e,l,d⟩
 ·exact ⟨fun _=>n,fun _=>k⟩
 ·constructor
  ·intro h1;omega
  ·intro h1;rw [name_num h1] at n;cases n
 ·constructor
  ·intro h1;omega
  ·intro h1
   unfold nameS at h1
   simp only [Bool.and_eq_true] at h1
   rw [seg_head h e,l] at h1
   exact absurd h1.1.1 (by decide)
/-- A number is not reserved. -/
theorem rsv_num {b:List UInt8} (h:numB b=true):rsvB b=false:=by
 cases hr:rsvB b with
 | false=>rfl
 | true=>
  have hall:rsv13.all (fun x=>!numB x)=true:=by decide
  unfold rsvB at hr
  obtain ⟨x,hx,hb⟩:=List.any_eq_true.1 hr
  have h1:=List.all_eq_true.1 hall x hx
  have h2:b=x:=by simpa using hb
  subst h2
  rw [h] at h1
  exact absurd h1 (by decide)
/-- The reader's words are words. -/
def WdG (r:RsC):Prop:=∀ x∈r.1,OneW x.1 x.2.1
theorem wdG_sub {r r':RsC} (h:WdG r) (hs:∀ x∈r'.1,x∈r.1):WdG r':=fun x hx=>h x (hs x hx)
theorem wdG_fail {r:RsC} (h:WdG r) (e:Int) (p:Pl):WdG (failC e p r):=wdG_sub h (by rw [failC_len];exact fun _=>id)
theorem wdG_take {r:RsC} (h:WdG r) (fin:Pl) (s:List UInt8):WdG (takeR fin s r):=by
 unfold takeR
 split
 ·exact wdG_sub h (fun x hx=>List.mem_of_mem_tail hx)
 ·exact wdG_fail h _ _
theorem name_fm {r:RsC} (h:WdG r) (fin:Pl):WdG (nameR fin r).2∧((nameR fin r).2.2.2=0→plainB (nameR fin r).1.1=true):=by
 obtain ⟨r1,r2⟩:=r
 cases r1 with
 | nil=>exact ⟨wdG_fail h _ _,fun he=>absurd he (failC_bad (by decide) _ _)⟩
 | cons w l=>
  have e:nameR fin (w :: l,r2)=if r2.2=0∧plainB (tkW w).2=true then (((tkW w).2,wPl w),(l,r2)) else (([],(0,0)),failC 12 (hereR fin (w :: l,r2)) (w :: l,r2)):=rfl
  rw [e]
  split
  ·next hq=>exact ⟨wdG_sub h (fun x hx=>List.mem_cons_of_mem _ hx),fun _=>hq.2⟩
  ·exact ⟨wdG_fail h _ _,fun he=>absurd he (failC_bad (by decide) _ _)⟩
theorem num_fm {r:RsC} (h:WdG r) (fin:Pl):WdG (numR fin r).2∧((numR fin r).2.2.2=0→nbB (numR fin r).1=true):=by
 obtain ⟨r1,r2⟩:=r
 cases r1 with
 | nil=>exact ⟨wdG_fail h _ _,fun he=>absurd he (failC_bad (by decide) _ _)⟩
 | cons w l=>
  have e:numR fin (w :: l,r2)=if r2.2=0∧w.1=2 then (valB 0 (tkW w).2,(l,r2)) else (0,failC 12 (hereR fin (w :: l,r2)) (w :: l,r2)):=rfl
  rw [e]
  split
  ·next hq=>
   refine ⟨wdG_sub h (fun x hx=>List.mem_cons_of_mem _ hx),fun _=>?_⟩
   have hn:numB (byt w.2.1)=true:=by
    rcases (h w List.mem_cons_self).kind with ⟨a,_⟩ | ⟨_,b⟩ | ⟨a,_⟩
    ·omega
    ·exact b
    ·omega
   exact decide_eq_true (num_small hn)
  ·exact ⟨wdG_fail h _ _,fun he=>absurd he (failC_bad (by decide) _ _)⟩
theorem take_fm {ws:List Wd} (h:∀ x∈ws,OneW x.1 x.2.1) (h0:(takeC (ws.map tkW)).2.2=0):exF (takeC (ws.map tkW)).1=true∧ClX (takeC (ws.map tkW)).1:=by
 have hb:BadOr _ 0 (rdC (ws.map tkW)):=fine_read h _ 1 0 (by omega) (by omega)
 unfold takeC at h0 ⊢
 rcases hb with ⟨e1,e2⟩ | e1
 ·rw [if_neg (by omega)] at h0 ⊢
  by_cases hq:fmX (rdC (ws.map tkW)).1=true
  ·rw [if_pos hq]
   refine ⟨?_,e2.1.cl⟩
   unfold exF
   rw [Bool.and_eq_true]
   exact ⟨hq,e2.1.pl⟩
  ·rw [if_neg hq] at h0;exact absurd (show (13:Int)=0 from h0) (by decide)
 ·rw [if_pos e1] at h0;exact absurd (show (12:Int)=0 from h0) (by decide)
theorem expr_fm {r:RsC} (h:WdG r) (fin:Pl):WdG (exprR fin r).2∧((exprR fin r).2.2.2=0→exF (exprR fin r).1=true∧ClX (exprR fin r).1):=by
 have hd:WdG (r.1.drop (takeC (r.1.map tkW)).2.1,r.2):=wdG_sub h (fun x hx=>List.mem_of_mem_drop hx)
 unfold exprR
 split
 ·next h1=>exact ⟨h,fun he=>absurd he h1⟩
 ·split
  ·next h2=>exact ⟨hd,fun _=>take_fm h h2⟩
  ·split
   ·exact ⟨wdG_fail h _ _,fun he=>absurd he (failC_bad (by decide) _ _)⟩
   ·next h2 _=>exact ⟨wdG_fail hd _ _,fun he=>absurd he (failC_bad h2 _ _)⟩
theorem sets_fm (fin:Pl):∀ (g:Nat) (acc:List (List UInt8 × Sx)) (r:RsC),WdG r→WdG (setsR fin g acc r).2∧((∀ s∈acc,setF s=true∧ClX s.2)→(setsR fin g acc r).2.2.2=0→∀ s∈(setsR fin g acc r).1,setF s=true∧ClX s.2)
 | 0,acc,r,h=>⟨h,fun ha _=>ha⟩
 | g+1,acc,r,h=>by
  unfold setsR
  split
  ·simp only
   obtain ⟨w1,n1⟩:=name_fm (wdG_take h fin wSet) fin
   have w2:=wdG_take w1 fin [61]
   obtain ⟨w3,n3⟩:=expr_fm w2 fin
   have gn:=goes_name fin (takeR fin wSet r)
   have gt:=goes_take fin [61] (nameR fin (takeR fin wSet r)).2
   have ge:=goes_expr fin (takeR fin [61] (nameR fin (takeR fin wSet r)).2)
   generalize exprR fin (takeR fin [61] (nameR fin (takeR fin wSet r)).2)=E at *
   generalize nameR fin (takeR fin wSet r)=N at *
   obtain ⟨i1,i2⟩:=sets_fm fin g (acc++[(N.1.1,E.1)]) E.2 w3
   refine ⟨i1,fun ha he=>i2 (fun s hs=>?_) he⟩
   have hE:=(goes_sets fin g _ _).2 he
   rcases List.mem_append.1 hs with hs | hs
   ·exact ha s hs
   ·rw [List.mem_singleton.1 hs]
    have hN:=gt.2 (ge.2 hE)
    refine ⟨?_,(n3 hE).2⟩
    show (plainB N.1.1 && exF E.1)=true
    rw [Bool.and_eq_true]
    exact ⟨n1 hN,(n3 hE).1⟩
  ·exact ⟨h,fun ha _=>ha⟩
theorem on_fm {r:RsC} (h:WdG r) (fin:Pl):WdG (onR fin r).2∧((onR fin r).2.2.2=0→onF (onR fin r).1=true∧OnCl (onR fin r).1):=by
 obtain ⟨w1,n1⟩:=name_fm (wdG_take h fin wOn) fin
 unfold onR
 simp only
 generalize nameR fin (takeR fin wOn r)=A at *
 obtain ⟨G,hG⟩:∃ g:(Bool × Sx) × RsC,(if isC wIf A.2=true then ((fun x=>((true,x.1),x.2)) (exprR fin (takeR fin wIf A.2))) else ((false,noX),A.2))=g:=⟨_,rfl⟩
 rw [hG]
 have hg:WdG G.2∧(G.2.2.2=0→(G.1.1=true→exF G.1.2=true∧ClX G.1.2)∧A.2.2.2=0):=by
  split at hG
  ·obtain ⟨w2,n2⟩:=expr_fm (wdG_take w1 fin wIf) fin
   have ge:=goes_expr fin (takeR fin wIf A.2)
   have gt:=goes_take fin wIf A.2
   rw [← hG]
   exact ⟨w2,fun he=>⟨fun _=>n2 he,gt.2 (ge.2 he)⟩⟩
  ·rw [← hG]
   exact ⟨w1,fun he=>⟨fun q=>(by cases q),he⟩⟩
 clear hG
 obtain ⟨w4,n4⟩:=name_fm (wdG_take hg.1 fin wGo) fin
 have gn:=(goes_take fin wGo G.2).trans (goes_name fin (takeR fin wGo G.2))
 generalize nameR fin (takeR fin wGo G.2)=N at *
 obtain ⟨w5,n5⟩:=sets_fm fin (N.2.1.length+1) [] N.2 w4
 have gs:=goes_sets fin (N.2.1.length+1) [] N.2
 generalize setsR fin (N.2.1.length+1) [] N.2=S at *
 refine ⟨w5,fun he=>?_⟩
 have hN:=gs.2 he
 obtain ⟨g1,g2⟩:=hg.2 (gn.2 hN)
 have hS:=n5 (fun s hs=>by simp at hs) he
 refine ⟨?_,fun hb=>(g1 hb).2,fun s hs=>(hS s hs).2⟩
 show (plainB A.1.1 && ((!G.1.1 || exF G.1.2) && (plainB N.1.1 && S.1.all setF)))=true
 rw [n1 g2,n4 hN,List.all_eq_true.2 (fun s hs=>(hS s hs).1)]
 cases hb:G.1.1 with
 | true=>rw [(g1 hb).1];rfl
 | false=>rfl
theorem kind_fm {r:RsC} (h:WdG r) (fin:Pl) (nm:List UInt8 × Pl) (os:List OnC):WdG (kindR fin r).2∧((kindR fin r).2.2.2=0→kndF (nm,(kindR fin r).1.1,(kindR fin r).1.2.1,(kindR fin r).1.2.2,os)=true):=by
 unfold kindR
 split
 ·exact ⟨wdG_take h fin _,fun _=>rfl⟩
 ·split
  ·exact ⟨wdG_take h fin _,fun _=>rfl⟩
  ·split
   ·simp only
    obtain ⟨w1,n1⟩:=name_fm (wdG_take h fin wDo) fin
    generalize nameR fin (takeR fin wDo r)=A at *
    obtain ⟨w2,n2⟩:=name_fm (wdG_take w1 fin wUndo) fin
    have g2:=(goes_take fin wUndo A.2).trans (goes_name fin (takeR fin wUndo A.2))
    generalize nameR fin (takeR fin wUndo A.2)=B at *
    obtain ⟨w3,n3⟩:=num_fm (wdG_take w2 fin wAt) fin
    have g3:=(goes_take fin wAt B.2).trans (goes_num fin (takeR fin wAt B.2))
    generalize numR fin (takeR fin wAt B.2)=C at *
    obtain ⟨w4,n4⟩:=num_fm (wdG_take w3 fin wRetries) fin
    have g4:=(goes_take fin wRetries C.2).trans (goes_num fin (takeR fin wRetries C.2))
    generalize numR fin (takeR fin wRetries C.2)=E at *
    refine ⟨w4,fun he=>?_⟩
    have hC:=g4.2 he
    have hB:=g3.2 hC
    have hA:=g2.2 hB
    have hd:A.1.1≠[]:=fun q=>by
     have:=plain_name (n1 hA)
     rw [q] at this
     revert this;decide
    unfold kndF
    rw [if_pos (step_do (h:=(nm,(false,false),(A.1.1,B.1.1),(C.1,E.1),os)) hd)]
    show (!false && !false && plainB A.1.1 && plainB B.1.1 && nbB C.1 && nbB E.1)=true
    rw [n1 hA,n2 hB,n3 hC,n4 he];rfl
   ·exact ⟨h,fun _=>rfl⟩
theorem in_fm {α:Type} (fin:Pl) (inner:RsC→α × RsC) (Q:α→Prop) (hw:∀ r,WdG r→WdG (inner r).2∧((inner r).2.2.2=0→Q (inner r).1)) (hg:∀ r,Goes r (inner r).2) :
  ∀ (g:Nat) (os:List OnC) (ss:List α) (r:RsC),WdG r→(∀ o∈os,onF o=true∧OnCl o)→(∀ x∈ss,Q x)→WdG (inR fin inner g os ss r).2∧((inR fin inner g os ss r).2.2.2=0→(∀ o∈(inR fin inner g os ss r).1.1,onF o=true∧OnCl o)∧(∀ x∈(inR fin inner g os ss r).1.2,Q x)):=by
 have key:∀ (g:Nat) (os:List OnC) (ss:List α) (r:RsC),WdG r→WdG (inR fin inner g os ss r).2:=by
  intro g
  induction g with
  | zero=>exact fun os ss r h=>h
  | succ g ih=>
   intro os ss r h
   unfold inR
   split
   ·split
    ·exact ih _ _ _ (on_fm h fin).1
    ·exact ih _ _ _ (hw r h).1
   ·exact h
 intro g
 induction g with
 | zero=>exact fun os ss r h ho hs=>⟨h,fun _=>⟨ho,hs⟩⟩
 | succ g ih=>
  intro os ss r h ho hs
  refine ⟨key _ _ _ _ h,?_⟩
  unfold inR
  split
  ·split
   ·intro he
    have h0:=(goes_in fin inner hg g _ _ _).2 he
    have hk:=(on_fm h fin).2 h0
    exact (ih (os++[(onR fin r).1]) ss (onR fin r).2 (on_fm h fin).1 (fun o hx=>by
     rcases List.mem_append.1 hx with hx | hx
     ·exact ho o hx
     ·rw [List.mem_singleton.1 hx];exact hk) hs).2 he
   ·intro he
    have h0:=(goes_in fin inner hg g _ _ _).2 he
    exact (ih os (ss++[(inner r).1]) (inner r).2 (hw r h).1 ho (fun o hx=>by
     rcases List.mem_append.1 hx with hx | hx
     ·exact hs o hx
     ·rw [List.mem_singleton.1 hx];exact (hw r h).2 h0)).2 he
  ·exact fun _=>⟨ho,hs⟩
theorem st_fm (fin:Pl):∀ (k:Nat) (r:RsC),WdG r→k≤6→WdG (stR fin k r).2∧((stR fin k r).2.2.2=0→stF (k+1) (7 - k) (stR fin k r).1=true∧StCl (k+1) (stR fin k r).1)
 | 0,r,h,_=>⟨wdG_fail h _ _,fun he=>absurd he (failC_bad (by split <;> decide) _ r)⟩
 | k+1,r,h,hk=>by
  obtain ⟨w1,n1⟩:=name_fm (wdG_take h fin wState) fin
  have e:stR fin (k+1) r=((((nameR fin (takeR fin wState r)).1,(kindR fin (takeR fin [123] (nameR fin (takeR fin wState r)).2)).1.1,(kindR fin (takeR fin [123] (nameR fin (takeR fin wState r)).2)).1.2.1,(kindR fin (takeR fin [123] (nameR fin (takeR fin wState r)).2)).1.2.2,(inR fin (stR fin k) ((kindR fin (takeR fin [123] (nameR fin (takeR fin wState r)).2)).2.1.length+1) [] [] (kindR fin (takeR fin [123] (nameR fin (takeR fin wState r)).2)).2).1.1),(inR fin (stR fin k) ((kindR fin (takeR fin [123] (nameR fin (takeR fin wState r)).2)).2.1.length+1) [] [] (kindR fin (takeR fin [123] (nameR fin (takeR fin wState r)).2)).2).1.2),takeR fin [125] (inR fin (stR fin k) ((kindR fin (takeR fin [123] (nameR fin (takeR fin wState r)).2)).2.1.length+1) [] [] (kindR fin (takeR fin [123] (nameR fin (takeR fin wState r)).2)).2).2):=rfl
  rw [e]
  clear e
  generalize nameR fin (takeR fin wState r)=A at *
  have g2:=goes_take fin [123] A.2
  have hk2:=fun os=>kind_fm (wdG_take w1 fin [123]) fin A.1 os
  have g3:=goes_kind fin (takeR fin [123] A.2)
  generalize kindR fin (takeR fin [123] A.2)=K at *
  obtain ⟨i1,i2⟩:=in_fm fin (stR fin k) (fun x=>stF (k+1) (7 - k) x=true∧StCl (k+1) x) (fun r h=>st_fm fin k r h (by omega)) (fun r=>(goes_st fin k r).1) (K.2.1.length+1) [] [] K.2 (hk2 []).1 (fun x hx=>by simp at hx) (fun x hx=>by simp at hx)
  have g4:=goes_in fin (stR fin k) (fun r=>(goes_st fin k r).1) (K.2.1.length+1) [] [] K.2
  generalize inR fin (stR fin k) (K.2.1.length+1) [] [] K.2=I at *
  refine ⟨wdG_take i1 fin [125],fun he=>?_⟩
  have hI:=(goes_take fin [125] I.2).2 he
  obtain ⟨j1,j2⟩:=i2 hI
  have hK:=g4.2 hI
  have hA:=g2.2 (g3.2 hK)
  refine ⟨?_,fun o ho=>(j1 o ho).2,fun x hx=>(j2 x hx).2⟩
  show (decide (7 - (k+1)≤6) && plainB A.1.1 && kndF (A.1,K.1.1,K.1.2.1,K.1.2.2,I.1.1) && I.1.1.all onF && I.1.2.all (stF (k+1) (7 - (k+1)+1)))=true
  have hk7:7 - (k+1)+1=7 - k:=by omega
  rw [hk7,decide_eq_true (by omega),n1 hA,(hk2 I.1.1).2 hK,List.all_eq_true.2 (fun o ho=>(j1 o ho).1),List.all_eq_true.2 (fun o ho=>(j2 o ho).1)]
  rfl
theorem sts_fm (fin:Pl):∀ (g:Nat) (acc:List (St 7)) (r:RsC),WdG r→(∀ x∈acc,stF 7 1 x=true∧StCl 7 x)→(stsR fin g acc r).2.2.2=0→∀ x∈(stsR fin g acc r).1,stF 7 1 x=true∧StCl 7 x
 | 0,acc,r,h,ha,_=>ha
 | g+1,acc,r,h,ha,he=>by
  unfold stsR at he ⊢
  split at he
  ·rename_i h1
   rw [if_pos h1]
   have h0:(stR fin 6 r).2.2.2=0:=by
    by_cases hz:(stR fin 6 r).2.2.2=0
    ·exact hz
    ·have ee:∀ g acc,stsR fin g acc (stR fin 6 r).2=(acc,(stR fin 6 r).2):=fun g acc=>by
      cases g with
      | zero=>rfl
      | succ g=>unfold stsR;rw [if_neg (fun q=>hz q.1)]
     rw [ee] at he;exact absurd he hz
   exact sts_fm fin g (acc++[(stR fin 6 r).1]) (stR fin 6 r).2 (st_fm fin 6 r h (by omega)).1 (fun x hx=>by
    rcases List.mem_append.1 hx with hx | hx
    ·exact ha x hx
    ·rw [List.mem_singleton.1 hx];exact (st_fm fin 6 r h (by omega)).2 h0) he
  ·rename_i h1
   rw [if_neg h1]
   exact ha
theorem vars_fm (fin:Pl):∀ (g:Nat) (acc:List (List UInt8 × Int × Pl)) (r:RsC),WdG r→WdG (varsR fin g acc r).2∧((∀ x∈acc,varF x=true)→(varsR fin g acc r).2.2.2=0→∀ x∈(varsR fin g acc r).1,varF x=true)
 | 0,acc,r,h=>⟨h,fun ha _=>ha⟩
 | g+1,acc,r,h=>by
  unfold varsR
  split
  ·simp only
   obtain ⟨w1,n1⟩:=name_fm (wdG_take h fin wVar) fin
   generalize nameR fin (takeR fin wVar r)=A at *
   have w2:=wdG_take w1 fin [61]
   have g2:=goes_take fin [61] A.2
   generalize takeR fin [61] A.2=B at *
   obtain ⟨N,hN⟩:∃ x:Int × RsC,(if isC [45] B=true then (fun x=>(-x.1,x.2)) (numR fin (takeR fin [45] B)) else numR fin B)=x:=⟨_,rfl⟩
   rw [hN]
   have hp:WdG N.2∧(N.2.2.2=0→(-1000000000≤N.1∧N.1≤1000000000)∧B.2.2=0):=by
    split at hN
    ·obtain ⟨w3,n3⟩:=num_fm (wdG_take w2 fin [45]) fin
     have g3:=(goes_take fin [45] B).trans (goes_num fin (takeR fin [45] B))
     rw [← hN]
     refine ⟨w3,fun he=>⟨?_,g3.2 he⟩⟩
     have:=nb_of (n3 he)
     show -1000000000≤-(numR fin (takeR fin [45] B)).1∧-(numR fin (takeR fin [45] B)).1≤1000000000
     omega
    ·obtain ⟨w3,n3⟩:=num_fm w2 fin
     have g3:=goes_num fin B
     rw [← hN]
     refine ⟨w3,fun he=>⟨?_,g3.2 he⟩⟩
     have:=nb_of (n3 he)
     omega
   clear hN
   obtain ⟨i1,i2⟩:=vars_fm fin g (acc++[(A.1.1,N.1,A.1.2)]) N.2 hp.1
   refine ⟨i1,fun ha he=>i2 (fun x hx=>?_) he⟩
   have h0:=(goes_vars fin g _ _).2 he
   obtain ⟨p1,p2⟩:=hp.2 h0
   rcases List.mem_append.1 hx with hx | hx
   ·exact ha x hx
   ·rw [List.mem_singleton.1 hx]
    show (plainB A.1.1 && decide (-1000000000≤N.1∧N.1≤1000000000))=true
    rw [n1 (g2.2 p2),decide_eq_true p1];rfl
  ·exact ⟨h,fun ha _=>ha⟩
/-- What is read of any text is formed. -/
theorem read_formed {s:List UInt8} (h0:(readC s).2.2=0):chF 7 (readC s).1=true∧∀ t∈(readC s).1.2.2.2,StCl 7 t:=by
 unfold readC at h0 ⊢
 split at h0
 ·rename_i h;exact absurd h0 h
 ·rename_i h
  rw [if_neg h]
  obtain ⟨h2,h3⟩:=words_one (l:=s) (by simpa using h)
  generalize (wordsS s).1=ws at *
  generalize endP (runes s) 1 1=fin at *
  have w0:WdG (ws,(0,0),0):=h2
  obtain ⟨w1,n1⟩:=name_fm (wdG_take w0 fin wChart) fin
  unfold chR at h0 ⊢
  simp only at h0 ⊢
  generalize nameR fin (takeR fin wChart (ws,(0,0),0))=A at *
  obtain ⟨w2,n2⟩:=num_fm w1 fin
  have g2:=goes_num fin A.2
  generalize numR fin A.2=N at *
  have w3:=wdG_take w2 fin [123]
  have g3:=goes_take fin [123] N.2
  generalize takeR fin [123] N.2=B at *
  obtain ⟨v1,v2⟩:=vars_fm fin (B.1.length+1) [] B w3
  have g4:=goes_vars fin (B.1.length+1) [] B
  generalize varsR fin (B.1.length+1) [] B=V at *
  have hs:=sts_fm fin (V.2.1.length+1) [] V.2 v1 (fun x hx=>by simp at hx)
  have g5:(stsR fin (V.2.1.length+1) [] V.2).2.2.2=0→V.2.2.2=0:=fun he=>by
   by_cases hz:V.2.2.2=0
   ·exact hz
   ·unfold stsR at he
    rw [if_neg (fun q=>hz q.1)] at he
    exact absurd he hz
  generalize stsR fin (V.2.1.length+1) [] V.2=S at *
  have ge:=(goes_take fin [125] S.2).2
  generalize takeR fin [125] S.2=E at *
  obtain ⟨z,hz⟩:∃ z,(if E.2.2=0∧E.1≠[] then failC 12 (hereR fin E) E else E)=z:=⟨_,rfl⟩
  rw [hz] at h0 ⊢
  by_cases hzz:z.2.2=0
  ·rw [if_pos hzz]
   have hE:E.2.2=0:=by
    by_cases hc:E.2.2=0∧E.1≠[]
    ·exact hc.1
    ·rw [if_neg hc] at hz;rw [hz];exact hzz
   have hS:=ge hE
   have hV:=g5 hS
   have hB:=g4.2 hV
   have hN:=g3.2 hB
   have hA:=g2.2 hN
   have j1:=hs hS
   refine ⟨?_,fun t ht=>(j1 t ht).2⟩
   show (plainB A.1.1 && nbB N.1 && V.1.all varF && S.1.all (stF 7 1))=true
   rw [n1 hA,n2 hN,List.all_eq_true.2 (v2 (fun x hx=>by simp at hx) hV),List.all_eq_true.2 (fun x hx=>(j1 x hx).1)]
   rfl
  ·rw [if_neg hzz] at h0;exact absurd h0 hzz
theorem cl_no:ClX noX:=cl_none (d:=0)
theorem take_cl {ws:List Wd} (h:∀ x∈ws,OneW x.1 x.2.1):ClX (takeC (ws.map tkW)).1∧cntX (takeC (ws.map tkW)).1≤2000:=by
 have hb:BadOr _ 0 (rdC (ws.map tkW)):=fine_read h _ 1 0 (by omega) (by omega)
 unfold takeC
 rcases hb with ⟨e1,e2⟩ | e1
 ·rw [if_neg (by omega)]
  by_cases hq:fmX (rdC (ws.map tkW)).1=true
  ·rw [if_pos hq]
   have:=(fm_parts hq).1
   exact ⟨e2.1.cl,by show cnt _ _≤2000;simp only;omega⟩
  ·rw [if_neg hq];exact ⟨cl_no,(show cntX noX≤2000 by decide)⟩
 ·rw [if_pos e1];exact ⟨cl_no,(show cntX noX≤2000 by decide)⟩
end Go.Proofs.YtfjdceknbdmhpaaGreatDoor
