import Derived.Test.YtppefcdkgejfbaaGreatDoorXac10
import Derived.Test.YtppefcdkgejfbaaGreatDoorXac07
import Derived.Test.YtppefcdkgejfbaaGreatDoorXac11
import Derived.Test.YtppefcdkgejfbaaGreatDoorXac09
import Derived.Test.YtppefcdkgejfbaaGreatDoorXac01
import Derived.Test.YtppefcdkgejfbaaGreatDoorXac03
import Derived.Deep.CutBlock
import Derived.Test.YtppefcdkgejfbaaGreatDoorXac08
import Derived.Test.YtppefcdkgejfbaaGreatDoorXac06
set_option maxRecDepth 100000
set_option maxHeartbeats 32000000
namespace Go.Proofs.YtppefcdkgejfbaaGreatDoor
open Go.RowKit Go.Lib
set_option linter.unusedSimpArgs false
set_option linter.unusedVariables false
attribute [local go_sem ↓] Go.wp_at_zero Go.wp_at_succ
theorem Tryz.infoEVar:(Tryz.prog.info? 92).map (fun i=>(i.zero,i.size,i.bytes))=some (some (.agg #[.string ⟨#[]⟩,.int .i64 0,.int .i64 0,.int .i64 0]),4,40):=by kernel_rfl
theorem cvar_res {w4:World}{R:Nat}{a b c d:Value}{tmps:Array Value}(hR:Bn w4 R [a,b,c,d]) (ht:tmps.getD 2 undef=.pointer (some ⟨R,0,none⟩)):(results Tryz.f80 tmps).run Tryz.prog w4=.ok (.agg #[a,b,c,d]) w4:=by
 have ht':tmps[2]?.getD undef=.pointer (some ⟨R,0,none⟩):=by simpa using ht
 have c0:=(hR 0 _ rfl).1
 have c1:=(hR 1 _ rfl).1
 have c2:=(hR 2 _ rfl).1
 have c3:=(hR 3 _ rfl).1
 simp [results,Tryz.results80,go_sem,ht',c0,c1,c2,c3]
theorem svar_any (w:World) (nm:ByteArray) (x pl pc:Int) (h1:nm.size<=140737488351232):Calls Tryz.prog 80 #[.agg #[.string nm,.int .i64 x,.int .i64 pl,.int .i64 pc]] w fun e w'=>e=.returned (.agg #[.string nm,.int .i64 x,.int .i64 0,.int .i64 0])/\Below w.heap.size w w':=by
 have g1:=fun w1=>pClone_any nm w1 h1
 have hal:Below w.heap.size w ((w.alloc (.cells #[.string nm,.int .i64 x,.int .i64 pl,.int .i64 pc] 92)).alloc (.cells #[.string ⟨#[]⟩,.int .i64 0,.int .i64 0,.int .i64 0] 92)):=((Below.refl w.heap.size w).alloc Nat.le.refl _).alloc (by simp) _
 have hX:Bn ((w.alloc (.cells #[.string nm,.int .i64 x,.int .i64 pl,.int .i64 pc] 92)).alloc (.cells #[.string ⟨#[]⟩,.int .i64 0,.int .i64 0,.int .i64 0] 92)) w.heap.size [.string nm,.int .i64 x,.int .i64 pl,.int .i64 pc]:=(Bn.new w [.string nm,.int .i64 x,.int .i64 pl,.int .i64 pc] 92 _ rfl).on ((Below.refl _ _).alloc Nat.le.refl _)
 have hR:Bn ((w.alloc (.cells #[.string nm,.int .i64 x,.int .i64 pl,.int .i64 pc] 92)).alloc (.cells #[.string ⟨#[]⟩,.int .i64 0,.int .i64 0,.int .i64 0] 92)) (w.heap.size+1) [.string ⟨#[]⟩,.int .i64 0,.int .i64 0,.int .i64 0]:=Bn.new (w.alloc (.cells #[.string nm,.int .i64 x,.int .i64 pl,.int .i64 pc] 92)) [.string ⟨#[]⟩,.int .i64 0,.int .i64 0,.int .i64 0] 92 _ (by simp)
 go_enter Tryz.func80,Tryz.ntmps80
 go_upto_region 1 with fail
 generalize ((w.alloc (.cells #[.string nm,.int .i64 x,.int .i64 pl,.int .i64 pc] 92)).alloc (.cells #[.string ⟨#[]⟩,.int .i64 0,.int .i64 0,.int .i64 0] 92))=wx at *
 have hB:Below wx.heap.size wx wx:=Below.refl _ _
 have c0:=(hX 0 _ rfl).1
 have c1:=(hX 1 _ rfl).1
 have hlt:=hX.lt
 obtain ⟨S,hS⟩:∃ S,w.heap.size=S:=⟨_,rfl⟩
 rw [hS] at c0 c1 hlt hR ⊢
 have HS:Hid (w.heap.size=S):=hS
 clear hX hS
 have n1:S≠S+1:=by omega
 have y0:=c0
 have y1:=c1
 go_region_held_law (fun w'=>w'.cell? ⟨S,0,none⟩=some (.string nm)/\w'.cell? ⟨S,1,none⟩=some (.int .i64 x))
  ((refine ⟨?_,?_⟩<;>(repeat (with_reducible first|exact y0|exact y1|refine cell_dr ?_|refine cell_far4 (ne_pt n1) ?_))<;>done))
  (first
   | (go_at_call 13;(with_reducible refine (g1 _).mono ?_);rintro e w1 ⟨rfl,b1⟩;(first|have hB:=Below.nxd hB b1|have hB:=Below.nx hB b1);have hR1:=hR.on hB;obtain ⟨r0,f0⟩:=hR1 0 _ rfl;obtain ⟨r1,f1⟩:=hR1 1 _ rfl;obtain ⟨r2,f2⟩:=hR1 2 _ rfl;obtain ⟨r3,f3⟩:=hR1 3 _ rfl;have y0:=(hB.cell (p:=⟨S,0,none⟩) hlt).trans c0;have y1:=(hB.cell (p:=⟨S,1,none⟩) hlt).trans c1)
   | fail)
 all_goals (
  have hR2:=(((hR1.set (i:=0) (by simp) (.string nm)).set (i:=1) (by simp) (.int .i64 x)).set (i:=2) (by simp) (.int .i64 0)).set (i:=3) (by simp) (.int .i64 0)
  have hb2:=putL_below [.string nm,.int .i64 x,.int .i64 0,.int .i64 0] w1 (S+1) 0 (hal.trans (hB.mono (by have:=hal.size;omega))) (by have:=HS.out;omega)
  go_wp2
  exact bodyPost_ret (cvar_res hR2 rfl) rfl ⟨rfl,hb2⟩)
def spV (v:List UInt8 × Int × Pl):List UInt8 × Int × Pl:=(v.1,v.2.1,(0,0))
theorem varQ_at {ok:Nat->Prop}{w:World}{l:List (List UInt8 × Int × Pl)}{a:Option Addr}{n cap:Nat}(h:RdK ok w 4 (rVar ok w) l (.slice a n cap)) (j:Nat) (hj:j < l.length):∃ b off,a=some ⟨b,off,none⟩/\b < w.heap.size/\∀ i u,(varV l[j])[i]?=some u->w.cell? ⟨b,off+j*4+i,none⟩=some u:=by
 obtain ⟨a1,cap1,he,h1,h2,h3⟩:=h
 simp only [Value.slice.injEq] at he
 obtain ⟨rfl,rfl,rfl⟩:=he
 obtain ⟨b,off,cs,ha,_,hb,hl,hr,hc⟩:=h3 j hj
 have hr:cs=varV l[j]:=hr
 subst hr
 exact ⟨b,off,ha,hb,hc⟩
theorem eachVar_any {ok:Nat->Prop}{w:World}{l:List (List UInt8 × Int × Pl)}{v:Value}(h:RdK ok w 4 (rVar ok w) l v) (hl:l.length<=100000) (hok:∀ s∈l,s.1.length<=140737488351232) :
  Calls Tryz.prog 79 #[v,.func (.func 80) #[] #[]] w fun e w'=>∃ u,e=.returned u/\RdK (Nw w.heap.size w') w' 4 (rVar (Nw w.heap.size w') w') (l.map spV) u/\Below w.heap.size w w':=by
 obtain ⟨ie,hie,hie0,hie1,hie2⟩:=info_parts Tryz.infoEVar
 obtain ⟨a,cap,rfl,hlc,hcm⟩:=h.form
 unfold maxLen at hcm
 have HC:=mkHid h
 have HK:=mkHid hok
 obtain ⟨n,hn⟩:∃ n,l.length=n:=⟨_,rfl⟩
 rw [hn] at hlc hl ⊢
 have HN:Hid (l.length=n):=hn
 clear h hok hn
 have hmk:=run_make (P:=Tryz.prog) w 39 92 ie _ Tryz.underlying39 hie hie0 .i64 .i64 (n:Int) (n:Int) (by omega) (by omega) (by rw [hie2];omega) (by omega)
 rw [Int.toNat_natCast,hie1] at hmk
 have hG0:RowG (w.alloc (.cells (madeCells (.agg #[.string ⟨#[]⟩,.int .i64 0,.int .i64 0,.int .i64 0]:Value).cells (n*4)) 92)) w.heap.size 4 n rVar ([]:List (List UInt8 × Int × Pl)):=RowG.made w _ 4 n _ _
 have hb0:Below w.heap.size w (w.alloc (.cells (madeCells (.agg #[.string ⟨#[]⟩,.int .i64 0,.int .i64 0,.int .i64 0]:Value).cells (n*4)) 92)):=(Below.refl _ _).alloc Nat.le.refl _
 have hs0:(w.alloc (.cells (madeCells (.agg #[.string ⟨#[]⟩,.int .i64 0,.int .i64 0,.int .i64 0]:Value).cells (n*4)) 92)).heap.size=w.heap.size+1:=by simp
 generalize w.alloc (.cells (madeCells (.agg #[.string ⟨#[]⟩,.int .i64 0,.int .i64 0,.int .i64 0]:Value).cells (n*4)) 92)=w0 at *
 go_enter Tryz.func79,Tryz.ntmps79
 go_wp2
 go_loopw [13] (fun ix wr=>∃ (i:Nat),i<=n/\ix=.int .i64 (i:Int)/\RowG wr w.heap.size 4 n rVar ((l.map spV).take i)/\Below w.heap.size w wr/\w.heap.size < wr.heap.size) (fun ix _=>n - (RowKit.intOf ix).toNat)
 case atStart=>exact ⟨0,Nat.zero_le _,rfl,hG0,hb0,by omega⟩
 case round=>
  obtain ⟨i,hi,rfl,hRow,hb,hGs⟩:=hrel
  clear hG0 hb0 hs0 hmk
  by_cases hlt:i < n
  ·have hil:i < l.length:=by rw [HN.out];exact hlt
   obtain ⟨b,off,rfl,hbl,hc⟩:=varQ_at HC.out i hil
   have hko:=HK.out _ (List.getElem_mem hil)
   obtain ⟨q,hq⟩:∃ q,l[i]=q:=⟨_,rfl⟩
   rw [hq] at hc hko
   obtain ⟨nm,hnm⟩:∃ nm:ByteArray,⟨q.1.toArray⟩=nm:=⟨_,rfl⟩
   have hz1:nm.size<=140737488351232:=by rw [<- hnm];show q.1.toArray.size<=_;simpa using hko
   obtain ⟨x,hx⟩:∃ x,q.2.1=x:=⟨_,rfl⟩
   obtain ⟨pl,hpl⟩:∃ x,q.2.2.1=x:=⟨_,rfl⟩
   obtain ⟨pc,hpc⟩:∃ x,q.2.2.2=x:=⟨_,rfl⟩
   have hv:varV q=[.string nm,.int .i64 x,.int .i64 pl,.int .i64 pc]:=by unfold varV sV;rw [hnm,hx,hpl,hpc]
   have hv2:varV (spV q)=[.string nm,.int .i64 x,.int .i64 0,.int .i64 0]:=by
    show [sV q.1,.int .i64 q.2.1,.int .i64 0,.int .i64 0]=_
    unfold sV;rw [hnm,hx]
   rw [hv] at hc
   have HQ:Hid (l[i]=q):=hq
   have HV2:Hid (varV (spV q)=[.string nm,.int .i64 x,.int .i64 0,.int .i64 0]):=hv2
   clear hq hko hnm hx hpl hpc hv hv2
   obtain ⟨acc,hac⟩:∃ acc,(l.map spV).take i=acc:=⟨_,rfl⟩
   have hla:acc.length=i:=by rw [<- hac];simp [HN.out];omega
   rw [hac] at hRow
   have HAC:Hid ((l.map spV).take i=acc):=hac
   clear hac
   have i1:(i:Int) < (n:Int):=by omega
   have i2:(0:Int)<=(i:Int):=by omega
   have C0:=(hb.cell (p:=⟨b,off+i*4+0,none⟩) hbl).trans (hc 0 _ rfl)
   have C1:=(hb.cell (p:=⟨b,off+i*4+1,none⟩) hbl).trans (hc 1 _ rfl)
   have C2:=(hb.cell (p:=⟨b,off+i*4+2,none⟩) hbl).trans (hc 2 _ rfl)
   have C3:=(hb.cell (p:=⟨b,off+i*4+3,none⟩) hbl).trans (hc 3 _ rfl)
   rw [Nat.add_zero] at C0
   clear hc
   have hal:=(Below.refl wr.heap.size wr).alloc Nat.le.refl (.cells #[.string nm,.int .i64 x,.int .i64 pl,.int .i64 pc] 92)
   have hX:=Bn.new wr [.string nm,.int .i64 x,.int .i64 pl,.int .i64 pc] 92 _ rfl
   have hRx:=hRow.on kp_var hGs hal
   have hbx:=hb.trans (hal.mono hb.size)
   have hGx:=Nat.lt_of_lt_of_le hGs hal.size
   have hcall:∀ w1,Below w.heap.size w w1->Calls Tryz.prog 80 #[.agg #[.string nm,.int .i64 x,.int .i64 pl,.int .i64 pc]] w1 fun e w'=>e=.returned (.agg #[.string nm,.int .i64 x,.int .i64 0,.int .i64 0])/\Below w1.heap.size w1 w':=fun w1 _=>svar_any w1 nm x pl pc hz1
   go_upto_region 5 with fail
   clear C0 C1 C2 C3 hal
   generalize wr.alloc (.cells #[.string nm,.int .i64 x,.int .i64 pl,.int .i64 pc] 92)=wx at *
   obtain ⟨X,hXX⟩:∃ X,wr.heap.size=X:=⟨_,rfl⟩
   rw [hXX] at hX ⊢
   have HXX:Hid (wr.heap.size=X):=hXX
   clear hXX
   have x0:=(hX 0 _ rfl).1
   have x1:=(hX 1 _ rfl).1
   have x2:=(hX 2 _ rfl).1
   have x3:=(hX 3 _ rfl).1
   go_wp2_with (first
    | (go_at_call 80;refine (hcall _ hbx).mono ?_;rintro e w1 ⟨rfl,b1⟩;have hp:rVar (Nw (w.heap.size+1) w1) w1 (spV q) [.string nm,.int .i64 x,.int .i64 0,.int .i64 0]:=(HV2.out.symm);have hR1:=hRx.on kp_var hGx b1;obtain ⟨⟨r0,q0⟩,z0⟩:=hR1.1 (i*4+0) (mul_in hlt (by omega));obtain ⟨⟨r1,q1⟩,z1⟩:=hR1.1 (i*4+1) (mul_in hlt (by omega));obtain ⟨⟨r2,q2⟩,z2⟩:=hR1.1 (i*4+2) (mul_in hlt (by omega));obtain ⟨⟨r3,q3⟩,z3⟩:=hR1.1 (i*4+3) (mul_in hlt (by omega));rw [Nat.add_zero] at q0 z0)
    | fail)
   have hP:=hR1.put kp_var (x:=spV q) (cs:=[.string nm,.int .i64 x,.int .i64 0,.int .i64 0]) (by rw [hla];exact hlt) rfl hp
   rw [hla] at hP
   have hb2:=putL_below [.string nm,.int .i64 x,.int .i64 0,.int .i64 0] w1 w.heap.size (i*4) (hbx.trans (b1.mono (Nat.le_of_lt hGx))) Nat.le.refl
   have hs2:w.heap.size < (putL w1 w.heap.size (i*4) [.string nm,.int .i64 x,.int .i64 0,.int .i64 0]).heap.size:=by rw [putL_size];exact Nat.lt_of_lt_of_le hGx b1.size
   have hac2:(l.map spV).take (i+1)=acc++[spV q]:=by
    rw [List.take_succ_eq_append_getElem (by simp [HN.out];omega),HAC.out]
    simp [HQ.out]
   clear x0 r0 q0 z0 x1 r1 q1 z1 x2 r2 q2 z2 x3 r3 q3 z3 hR1 hRx hp
   go_wp2
   go_roundw
   case rel=>exact ⟨i+1,hlt,by go_num,by rw [hac2];exact hP,hb2,hs2⟩
   case measure=>simp [RowKit.intOf];omega
  ·have i1:¬ (i:Int) < (n:Int):=by omega
   have hin:i=n:=by omega
   have hfull:(l.map spV).take i=l.map spV:=List.take_of_length_le (by simp [HN.out];omega)
   rw [hfull] at hRow
   have hrd:=hRow.rd kp_var hGs (by simp [HN.out]) (by unfold maxLen;omega)
   go_wp2
   go_ret
   exact ⟨_,rfl,hrd,hb⟩
theorem their_res {w4:World}{R:Nat}{a b c d e f:Value}{tmps:Array Value}(hR:Bn w4 R [a,b,c,d,e,f]) (ht:tmps.getD 2 undef=.pointer (some ⟨R,0,none⟩)):(results Tryz.f7 tmps).run Tryz.prog w4=.ok (.agg #[a,b,c,d,e,f]) w4:=by
 have ht':tmps[2]?.getD undef=.pointer (some ⟨R,0,none⟩):=by simpa using ht
 have c0:=(hR 0 _ rfl).1
 have c1:=(hR 1 _ rfl).1
 have c2:=(hR 2 _ rfl).1
 have c3:=(hR 3 _ rfl).1
 have c4:=(hR 4 _ rfl).1
 have c5:=(hR 5 _ rfl).1
 simp [results,Tryz.results7,go_sem,ht',c0,c1,c2,c3,c4,c5]
theorem theirs_ch {ok:Nat->Prop}{w:World}{d:Nat}{c:ChD d}{v:Value}(h:RdD ok w d c v) (hok:∀ t∈c.2.2.2,SmS d t) (hl1:totS d c.2.2.2<=400) (hl2:c.2.2.1.length<=3001) :
  Calls Tryz.prog 7 #[v] w fun e w'=>∃ u,e=.returned u/\RdC (fun b=>w.heap.size<=b) w' d (thC d c) u/\Below w.heap.size w w':=by
 obtain ⟨iv,hiv,hiv0,hiv1,hiv2⟩:=info_parts Tryz.infoVar
 obtain ⟨sv,ss,rfl,hv,hs⟩:=h
 obtain ⟨a,cap,rfl,hlc,hcm⟩:=hv.form
 obtain ⟨p4,p6,rfl,_⟩:=hs.form
 unfold maxLen at hcm
 have HV:=mkHid hv
 have hcall:=fun w1 (b1:Below w.heap.size w w1)=>ts_any d ok w1 c.2.2.2 _ (hs.stay (kp_stD d) (fun k hk hl=>⟨hk,b1.block k hl⟩)) hok hl1
 obtain ⟨nv,hnv⟩:∃ nv,sD c.1.1=.string nv:=⟨_,rfl⟩
 obtain ⟨n,hn⟩:∃ n,c.2.2.1.length=n:=⟨_,rfl⟩
 obtain ⟨i,hi⟩:∃ n,c.2.2.2.length=n:=⟨_,rfl⟩
 obtain ⟨vn,hvn⟩:∃ x,c.2.1=x:=⟨_,rfl⟩
 obtain ⟨ln,hln⟩:∃ x,c.1.2.1=x:=⟨_,rfl⟩
 obtain ⟨co,hco⟩:∃ x,c.1.2.2=x:=⟨_,rfl⟩
 rw [hnv,hvn,hln,hco,hi,hn]
 rw [hi] at hcall
 rw [hn] at hlc hl2
 have HN:Hid (c.2.2.1.length=n):=hn
 have HR:Hid (∀ (ok':Nat->Prop) (w':World) (a':Option Addr) (c':Nat) (b':Option Addr) (e':Nat),RdK ok' w' 4 (rVar ok' w') c.2.2.1 (.slice a' n c')->RdK ok' w' 11 (rSt d ok' w') (c.2.2.2.map (thS d)) (.slice b' i e')->RdC ok' w' d (thC d c) (.agg #[.string nv,.int .i64 vn,.int .i64 ln,.int .i64 co,.slice a' n c',.slice b' i e'])):=by
  intro ok' w' a' c' b' e' h1 h2
  refine ⟨_,_,?_,h1,h2⟩
  show _=Value.agg #[sV c.1.1,.int .i64 c.2.1,.int .i64 c.1.2.1,.int .i64 c.1.2.2,_,_]
  rw [show sV c.1.1=sD c.1.1 from rfl,hnv,hvn,hln,hco]
 have hcall2:∀ w1,Below w.heap.size w w1->Calls Tryz.prog 18 #[.slice p4 i p6] w1 fun e w'=>∃ iq ic,e=.returned (.slice iq i ic)/\RdK (fun b=>w1.heap.size<=b) w' 11 (rSt d (fun b=>w1.heap.size<=b) w') (c.2.2.2.map (thS d)) (.slice iq i ic)/\Below w1.heap.size w1 w':=fun w1 b1=>(hcall w1 b1).mono (fun e w' hh=>by
  obtain ⟨u,h1,h2,h3⟩:=hh
  obtain ⟨iq,ic,rfl,_⟩:=h2.form
  rw [List.length_map,hi] at h1 h2
  exact ⟨iq,ic,h1,h2,h3⟩)
 clear hcall hv hs hok hl1 hn hi hnv hvn hln hco
 have hal:Below w.heap.size w ((w.alloc (.cells #[.string nv,.int .i64 vn,.int .i64 ln,.int .i64 co,.slice a n cap,.slice p4 i p6] 27)).alloc (.cells #[.string ⟨#[]⟩,.int .i64 0,.int .i64 0,.int .i64 0,.slice none 0 0,.slice none 0 0] 42)):=((Below.refl w.heap.size w).alloc Nat.le.refl _).alloc (by simp) _
 have hX:Bn ((w.alloc (.cells #[.string nv,.int .i64 vn,.int .i64 ln,.int .i64 co,.slice a n cap,.slice p4 i p6] 27)).alloc (.cells #[.string ⟨#[]⟩,.int .i64 0,.int .i64 0,.int .i64 0,.slice none 0 0,.slice none 0 0] 42)) w.heap.size [.string nv,.int .i64 vn,.int .i64 ln,.int .i64 co,.slice a n cap,.slice p4 i p6]:=(Bn.new w [.string nv,.int .i64 vn,.int .i64 ln,.int .i64 co,.slice a n cap,.slice p4 i p6] 27 _ rfl).on ((Below.refl _ _).alloc Nat.le.refl _)
 have hR:Bn ((w.alloc (.cells #[.string nv,.int .i64 vn,.int .i64 ln,.int .i64 co,.slice a n cap,.slice p4 i p6] 27)).alloc (.cells #[.string ⟨#[]⟩,.int .i64 0,.int .i64 0,.int .i64 0,.slice none 0 0,.slice none 0 0] 42)) (w.heap.size+1) [.string ⟨#[]⟩,.int .i64 0,.int .i64 0,.int .i64 0,.slice none 0 0,.slice none 0 0]:=Bn.new (w.alloc (.cells #[.string nv,.int .i64 vn,.int .i64 ln,.int .i64 co,.slice a n cap,.slice p4 i p6] 27)) [.string ⟨#[]⟩,.int .i64 0,.int .i64 0,.int .i64 0,.slice none 0 0,.slice none 0 0] 42 _ (by simp)
 have hsz:((w.alloc (.cells #[.string nv,.int .i64 vn,.int .i64 ln,.int .i64 co,.slice a n cap,.slice p4 i p6] 27)).alloc (.cells #[.string ⟨#[]⟩,.int .i64 0,.int .i64 0,.int .i64 0,.slice none 0 0,.slice none 0 0] 42)).heap.size=w.heap.size+2:=by simp
 go_enter Tryz.func7,Tryz.ntmps7
 go_upto_region 1 with fail
 generalize ((w.alloc (.cells #[.string nv,.int .i64 vn,.int .i64 ln,.int .i64 co,.slice a n cap,.slice p4 i p6] 27)).alloc (.cells #[.string ⟨#[]⟩,.int .i64 0,.int .i64 0,.int .i64 0,.slice none 0 0,.slice none 0 0] 42))=wx at *
 obtain ⟨S,hS⟩:∃ S,w.heap.size=S:=⟨_,rfl⟩
 rw [hS] at hX hR hsz ⊢
 have HS:Hid (w.heap.size=S):=hS
 have hbx:Below w.heap.size w wx:=hal
 have hSw:w.heap.size<=S:=by omega
 clear hS hal
 go_cut [3] (fun u3 wc=>∃ Q iq ic,u3=.pointer (some ⟨Q,0,none⟩)/\S+2<=Q/\Bn wc Q [.string nv,.int .i64 vn,.int .i64 ln,.int .i64 co,.slice none 0 0,.slice iq i ic]/\RdK (fun k=>S+2<=k/\k≠Q) wc 11 (rSt d (fun k=>S+2<=k/\k≠Q) wc) (c.2.2.2.map (thS d)) (.slice iq i ic)/\Below (S+2) wx wc)
 case first=>
  have hbz:Below w.heap.size w (wx.alloc (.cells #[.string ⟨#[]⟩,.int .i64 0,.int .i64 0,.int .i64 0,.slice none 0 0,.slice none 0 0] 42)):=hbx.alloc hbx.size _
  have hZ0:Bn (wx.alloc (.cells #[.string ⟨#[]⟩,.int .i64 0,.int .i64 0,.int .i64 0,.slice none 0 0,.slice none 0 0] 42)) (S+2) [.string ⟨#[]⟩,.int .i64 0,.int .i64 0,.int .i64 0,.slice none 0 0,.slice none 0 0]:=Bn.new wx [.string ⟨#[]⟩,.int .i64 0,.int .i64 0,.int .i64 0,.slice none 0 0,.slice none 0 0] 42 _ hsz.symm
  have hzx:(wx.alloc (.cells #[.string ⟨#[]⟩,.int .i64 0,.int .i64 0,.int .i64 0,.slice none 0 0,.slice none 0 0] 42)).heap.size=S+3:=by simp;omega
  have n1:S≠S+2:=by omega
  have X0:=(hX 0 _ rfl).1
  have X1:=(hX 1 _ rfl).1
  have X2:=(hX 2 _ rfl).1
  have X3:=(hX 3 _ rfl).1
  have X5:=(hX 5 _ rfl).1
  clear HV HR hR
  go_region_held_law (fun w'=>w'.cell? ⟨S,0,none⟩=some (.string nv)/\w'.cell? ⟨S,1,none⟩=some (.int .i64 vn)/\w'.cell? ⟨S,2,none⟩=some (.int .i64 ln)/\w'.cell? ⟨S,3,none⟩=some (.int .i64 co)/\w'.cell? ⟨S,5,none⟩=some (.slice p4 i p6))
   (((refine ⟨?_,?_,?_,?_,?_⟩<;>(repeat (with_reducible first|exact X0|exact X1|exact X2|exact X3|exact X5|exact Y0|exact Y1|exact Y2|exact Y3|exact Y5|refine cell_al ?_|refine cell_dr ?_|refine cell_far4 (ne_pt n1) ?_|refine cell_far4 (ne_pt n2) ?_))<;>done)))
   (first
    | (go_at_call 18;(with_reducible refine (hcall2 _ hbx.drew).mono ?_);rintro e w1 ⟨iq,ic,rfl,hr1,b1⟩;have bw:Below wx.heap.size wx w1:=((Below.refl _ wx).drew).trans b1;have n2:S≠w1.heap.size:=(by have:=bw.size;omega);have kc:∀ p u,wx.cell? p=some u->w1.cell? p=some u:=fun p u hp=>(by rw [bw.cell (World.block_lt_of_cell? wx _ hp)];exact hp);have Y0:=kc _ _ X0;have Y1:=kc _ _ X1;have Y2:=kc _ _ X2;have Y3:=kc _ _ X3;have Y5:=kc _ _ X5)
    | (go_at_call 18;(with_reducible refine (hcall2 _ hbz.drew).mono ?_);rintro e w1 ⟨iq,ic,rfl,hr1,b1⟩;have bz:Below (wx.alloc (.cells #[.string ⟨#[]⟩,.int .i64 0,.int .i64 0,.int .i64 0,.slice none 0 0,.slice none 0 0] 42)).heap.size (wx.alloc (.cells #[.string ⟨#[]⟩,.int .i64 0,.int .i64 0,.int .i64 0,.slice none 0 0,.slice none 0 0] 42)) w1:=((Below.refl _ (wx.alloc (.cells #[.string ⟨#[]⟩,.int .i64 0,.int .i64 0,.int .i64 0,.slice none 0 0,.slice none 0 0] 42))).drew).trans b1;have bw:Below wx.heap.size wx w1:=((Below.refl wx.heap.size wx).alloc Nat.le.refl (.cells #[.string ⟨#[]⟩,.int .i64 0,.int .i64 0,.int .i64 0,.slice none 0 0,.slice none 0 0] 42)).trans (bz.mono (by rw [hsz,hzx];omega));have kc:∀ p u,wx.cell? p=some u->w1.cell? p=some u:=fun p u hp=>(by rw [bw.cell (World.block_lt_of_cell? wx _ hp)];exact hp);have Y0:=kc _ _ X0;have Y1:=kc _ _ X1;have Y2:=kc _ _ X2;have Y3:=kc _ _ X3;have Y5:=kc _ _ X5;have hZ:=hZ0.on bz;obtain ⟨z0,f0⟩:=hZ 0 _ rfl;obtain ⟨z1,f1⟩:=hZ 1 _ rfl;obtain ⟨z2,f2⟩:=hZ 2 _ rfl;obtain ⟨z3,f3⟩:=hZ 3 _ rfl;obtain ⟨z4,f4⟩:=hZ 4 _ rfl;obtain ⟨z5,f5⟩:=hZ 5 _ rfl)
    | fail)
  ·have bw2:Below (S+2) wx w1:=by rw [<- hsz];exact bw
   have hs1:S+2<=w1.heap.size:=by have:=bw.size;omega
   have hr2:=hr1.stay (kp_st d) (ok':=fun k=>S+2<=k/\k≠w1.heap.size) (w':=w1.alloc (.cells #[.string nv,.int .i64 vn,.int .i64 ln,.int .i64 co,.slice none 0 0,.slice iq i ic] 42)) (fun k hk hl=>⟨⟨by have hk':wx.heap.size<=k:=hk;omega,by omega⟩,((Below.refl w1.heap.size w1).alloc Nat.le.refl _).block k hl⟩)
   go_wp2
   go_meet
   case rel=>exact ⟨w1.heap.size,iq,ic,rfl,hs1,Bn.new w1 [.string nv,.int .i64 vn,.int .i64 ln,.int .i64 co,.slice none 0 0,.slice iq i ic] 42 _ rfl,hr2,bw2.alloc hs1 _⟩
  ·have bw2:Below (S+2) wx w1:=by rw [<- hsz];exact bw
   have hQ2:=((((((hZ.set (i:=0) (by simp) (.string nv)).set (i:=1) (by simp) (.int .i64 vn)).set (i:=2) (by simp) (.int .i64 ln)).set (i:=3) (by simp) (.int .i64 co)).set (i:=4) (by simp) (.slice none 0 0)).set (i:=5) (by simp) (.slice iq i ic))
   have hb2:=putL_below [.string nv,.int .i64 vn,.int .i64 ln,.int .i64 co,.slice none 0 0,.slice iq i ic] w1 (S+2) 0 bw2 Nat.le.refl
   have hr2:=hr1.stay (kp_st d) (ok':=fun k=>S+2<=k/\k≠S+2) (w':=putL w1 (S+2) 0 [.string nv,.int .i64 vn,.int .i64 ln,.int .i64 co,.slice none 0 0,.slice iq i ic]) (fun k hk hl=>⟨by have hk':(wx.alloc (.cells #[.string ⟨#[]⟩,.int .i64 0,.int .i64 0,.int .i64 0,.slice none 0 0,.slice none 0 0] 42)).heap.size<=k:=hk;omega,putL_heap _ _ _ _ _ (by have hk':(wx.alloc (.cells #[.string ⟨#[]⟩,.int .i64 0,.int .i64 0,.int .i64 0,.slice none 0 0,.slice none 0 0] 42)).heap.size<=k:=hk;omega)⟩)
   go_wp2
   go_meet
   case rel=>exact ⟨S+2,iq,ic,rfl,Nat.le_refl _,hQ2,hr2,hb2⟩
 case rest=>
  obtain ⟨Q,iq,ic,rfl,hQ,hQb,hQr,hbq⟩:=hcut
  have hXc:=hX.blk (hbq.block S (by omega))
  have hRc:=hR.blk (hbq.block (S+1) (by omega))
  have hbw:=hbx.trans (hbq.mono (by omega))
  obtain ⟨wk,hwk⟩:∃ x,x=wc:=⟨_,rfl⟩
  subst hwk
  have hql:Q < wk.heap.size:=hQb.lt
  have hws:=hXc.lt
  have hwr:=hRc.lt
  have x4:=(hXc 4 _ rfl).1
  go_wp2
  go_loopw [18] (fun ix wr=>∃ (j:Nat) (sl2:Value),j<=n/\ix=.int .i64 (j:Int)/\Bn wr Q [.string nv,.int .i64 vn,.int .i64 ln,.int .i64 co,sl2,.slice iq i ic]/\OwnB wr wk.heap.size (fun _=>False) 92 4 rVar sl2 (c.2.2.1.take j)/\Fx Q wk wr) (fun ix _=>n - (RowKit.intOf ix).toNat)
  case atStart=>exact ⟨0,_,Nat.zero_le _,rfl,hQb,ownB_nil _ _ _ _ _ _,Fx.refl _ _⟩
  case round=>
   clear x4
   obtain ⟨j,sl2,hj,rfl,hQB,hRow,hF⟩:=hrel
   obtain ⟨acj,hacj⟩:∃ acj,c.2.2.1.take j=acj:=⟨_,rfl⟩
   have hlj:acj.length=j:=by rw [<- hacj,List.length_take,HN.out];omega
   rw [hacj] at hRow
   have HACJ:Hid (c.2.2.1.take j=acj):=hacj
   clear hacj
   obtain ⟨ra,rc,rfl,hrl,hrm⟩:=hRow.form
   rw [hlj] at hRow hQB hrl
   have hXr:=hXc.fx hF (by omega)
   have hFs:=hF.size
   have hbr:Below w.heap.size w wr:=hF.bel hbw (by omega) Nat.le.refl
   by_cases hjl:j < n
   ·have hjt:j < c.2.2.1.length:=by rw [HN.out];exact hjl
    obtain ⟨b,off,rfl,hbl,hc⟩:=varQ_at (show RdK ok w 4 (rVar ok w) c.2.2.1 _ from HV.out) j hjt
    obtain ⟨q,hq⟩:∃ q,c.2.2.1[j]=q:=⟨_,rfl⟩
    rw [hq] at hc
    obtain ⟨sn,sv,sl,sc,hsv⟩:∃ sn sv sl sc,varV q=[.string sn,.int .i64 sv,.int .i64 sl,.int .i64 sc]:=⟨_,_,_,_,rfl⟩
    rw [hsv] at hc
    have hp:rVar (fun b=>wr.heap.size<=b) wr q [.string sn,.int .i64 sv,.int .i64 sl,.int .i64 sc]:=hsv.symm
    have HQ:Hid (c.2.2.1[j]=q):=hq
    clear hsv hq
    have C0:=(hbr.cell (p:=⟨b,off+j*4+0,none⟩) hbl).trans (hc 0 _ rfl)
    have C1:=(hbr.cell (p:=⟨b,off+j*4+1,none⟩) hbl).trans (hc 1 _ rfl)
    have C2:=(hbr.cell (p:=⟨b,off+j*4+2,none⟩) hbl).trans (hc 2 _ rfl)
    have C3:=(hbr.cell (p:=⟨b,off+j*4+3,none⟩) hbl).trans (hc 3 _ rfl)
    rw [Nat.add_zero] at C0
    clear hc
    have P4:=(hXr 4 _ rfl).1
    obtain ⟨k4,z4⟩:=hQB 4 _ rfl
    have i3:(j:Int) < (n:Int):=by omega
    have i4:(0:Int)<=(j:Int):=by omega
    have hali:=(Below.refl wr.heap.size wr).alloc Nat.le.refl (.cells #[.string sn,.int .i64 sv,.int .i64 sl,.int .i64 sc] 92)
    have hQa:=hQB.on hali
    obtain ⟨m4,o4⟩:=hQa 4 _ rfl
    go_upto_region 5 with fail
    go_region_law (first
     | (refine step_pushB wr.drew rfl _ _ 39 rfl wk.heap.size (fun _=>False) 92 iv (.agg #[.string ⟨#[]⟩,.int .i64 0,.int .i64 0,.int .i64 0]) 4 40 Tryz.underlying39 hiv hiv0 hiv1 hiv2 rfl kp_var (.slice ra j rc) acj q [.string sn,.int .i64 sv,.int .i64 sl,.int .i64 sc] wr.heap.size rfl rfl rfl (by simp [Value.oneCell']) hRow hp hFs (fun x hx=>(hRow.lt x hx).2) (fun b hb=>hb.elim) (by omega) (by unfold maxLen;omega) hFs ?_;intro vb wb hOb2 hgb2 hbb hat;have hBb:=hQB.blk (hbb.block _ hql);obtain ⟨m5,n5⟩:=hBb 4 _ rfl;obtain ⟨vba,vbc,hvb,hvbl,hvbm⟩:=hOb2.form;rw [List.length_append,List.length_singleton,hlj] at hvb;subst hvb)
     | fail)
    all_goals (
     have hBc:=hBb.set (i:=4) (by simp) (.slice vba (j+1) vbc)
     have hRc2:=hOb2.set kp_var (X:=Q) (i:=4) hql (.slice vba (j+1) vbc)
     have hFc:=((hF.drew).andD hbb Nat.le.refl).setX (i:=4) (.slice vba (j+1) vbc)
     have hac2:c.2.2.1.take (j+1)=acj++[q]:=by rw [List.take_succ_eq_append_getElem hjt,HACJ.out,HQ.out]
     clear hQa m4 o4 hali hgb2 hbb hat hBb m5 n5 hOb2 k4 z4 P4 C0 C1 C2 C3
     go_wp2
     go_roundw
     case rel=>exact ⟨j+1,_,hjl,by go_num,hBc,by rw [hac2];exact hRc2,hFc⟩
     case measure=>simp [RowKit.intOf];omega)
   ·have i3:¬ (j:Int) < (n:Int):=by omega
    have hjn:j=n:=by omega
    subst hjn
    have hfull:acj=c.2.2.1:=by rw [<- HACJ.out];exact List.take_of_length_le (by rw [HN.out];omega)
    have hRr:=hRc.fx hF (by omega)
    have hS2:=HS.out
    have hvars:=(hRow.rd kp_var).stay kp_var (ok':=fun b=>S+2<=b) (w':=putL wr (S+1) 0 [.string nv,.int .i64 vn,.int .i64 ln,.int .i64 co,.slice ra j rc,.slice iq i ic]) (fun b hb hl=>⟨by omega,putL_heap _ _ _ _ _ (by omega)⟩)
    rw [hfull] at hvars
    have hstates:=hQr.stay (kp_st d) (ok':=fun b=>S+2<=b) (w':=putL wr (S+1) 0 [.string nv,.int .i64 vn,.int .i64 ln,.int .i64 co,.slice ra j rc,.slice iq i ic]) (fun b hb hl=>⟨hb.1,(putL_heap _ _ _ _ _ (by omega)).trans (hF.block b hl (fun e=>hb.2 (Option.some.inj e)))⟩)
    have hfin:=HR.out _ _ _ _ _ _ (hvars.stay kp_var (ok':=fun b=>w.heap.size<=b) (fun b hb hl=>⟨by omega,rfl⟩)) (hstates.stay (kp_st d) (ok':=fun b=>w.heap.size<=b) (fun b hb hl=>⟨by omega,rfl⟩))
    have hbz:=putL_below [.string nv,.int .i64 vn,.int .i64 ln,.int .i64 co,.slice ra j rc,.slice iq i ic] wr (S+1) 0 hbr (by omega)
    clear hS2
    have t0:=(hQB 0 _ rfl).1
    obtain ⟨r0,f0⟩:=hRr 0 _ rfl
    have t1:=(hQB 1 _ rfl).1
    obtain ⟨r1,f1⟩:=hRr 1 _ rfl
    have t2:=(hQB 2 _ rfl).1
    obtain ⟨r2,f2⟩:=hRr 2 _ rfl
    have t3:=(hQB 3 _ rfl).1
    obtain ⟨r3,f3⟩:=hRr 3 _ rfl
    have t4:=(hQB 4 _ rfl).1
    obtain ⟨r4,f4⟩:=hRr 4 _ rfl
    have t5:=(hQB 5 _ rfl).1
    obtain ⟨r5,f5⟩:=hRr 5 _ rfl
    have hRz:=(((((hRr.set (i:=0) (by simp) (.string nv)).set (i:=1) (by simp) (.int .i64 vn)).set (i:=2) (by simp) (.int .i64 ln)).set (i:=3) (by simp) (.int .i64 co)).set (i:=4) (by simp) (.slice ra j rc)).set (i:=5) (by simp) (.slice iq i ic)
    go_wp2
    exact bodyPost_ret (their_res hRz rfl) rfl ⟨_,rfl,hfin,hbz⟩
end Go.Proofs.YtppefcdkgejfbaaGreatDoor
namespace Go.Proofs.YtppefcdkgejfbaaGreatDoor
set_option linter.unusedVariables false
def Ahd (n:Nat) (P:Nat->Int):Prop:=∀ m < n,-1<=P m/\P m < m
theorem okR_more {n:Nat}{P:Nat->Int}(hP:Ahd n P) (p:Int):∀ (f:Nat) (c:Int),-1<=c->c < f->c < n->okR P p f c=okR P p (c+1).toNat c
 | 0,c,h1,h2,h3=>by
  have:c = -1:=by omega
  subst this;rfl
 | f+1,c,h1,h2,h3=>by
  by_cases h0:c < 0
  ·have:c = -1:=by omega
   subst this
   unfold okR;rw [if_pos (by omega)];rfl
  have e:(c+1).toNat=c.toNat+1:=by omega
  rw [e]
  unfold okR
  rw [if_neg h0,if_neg h0]
  have hl:=hP c.toNat (by omega)
  rw [okR_more hP p f (P c.toNat) (by omega) (by omega) (by omega),okR_more hP p c.toNat (P c.toNat) (by omega) (by omega) (by omega)]
theorem okR_step {n:Nat}{P:Nat->Int}(hP:Ahd n P) (p:Int) {k:Nat}(hk:k < n):okR P p ((k:Int)+1).toNat k=(decide (p=k) || okR P p (P k+1).toNat (P k)):=by
 have e:((k:Int)+1).toNat=k+1:=by omega
 have hl:=hP k hk
 rw [e,okR,if_neg (by omega),Int.toNat_natCast,okR_more hP p k (P k) (by omega) (by omega) (by omega)]
 by_cases h:p=(k:Int)
 ·rw [if_pos h,decide_eq_true h,Bool.true_or]
 ·rw [if_neg h,decide_eq_false h,Bool.false_or]
end Go.Proofs.YtppefcdkgejfbaaGreatDoor
namespace Go.Proofs.YtppefcdkgejfbaaGreatDoor
open Go.RowKit Go.Lib
set_option linter.unusedSimpArgs false
set_option linter.unusedVariables false
attribute [local go_sem ↓] Go.wp_at_zero Go.wp_at_succ
theorem flM_len:∀ (d k:Nat) (l:List (St d)),(flM d k (l.map (thS d))).length=totS d l
 | 0,k,l=>by simp [flM,totS]
 | d+1,k,[]=>by simp [flM,totS]
 | d+1,k,t :: r=>by
  have h1:=flM_len d (k+1) t.2
  have h2:=flM_len (d+1) k r
  have e:flM (d+1) k ((t :: r).map (thS (d+1)))=(k,⟨d+1,thS (d+1) t⟩) :: (flM d (k+1) (t.2.map (thS d))++flM (d+1) k (r.map (thS (d+1)))):=by
   simp only [flM,List.map_cons,List.flatMap_cons,List.cons_append]
   rfl
  rw [e,List.length_cons,List.length_append,h1,h2]
  show _=((t :: r).map (fun t:St (d+1)=>1+totS d t.2)).sum
  rw [List.map_cons,List.sum_cons]
  show totS d t.2+totS (d+1) r+1=1+totS d t.2+totS (d+1) r
  omega
theorem flM_names:∀ (d k:Nat) (l:List (St d)),(∀ t∈l,SmS d t)->∀ y∈flM d k (l.map (thS d)),(nd0 y).1.size<=140737488351232
 | 0,k,l,_,y,hy=>by simp [flM] at hy
 | d+1,k,l,h,y,hy=>by
  simp only [flM,List.mem_flatMap,List.mem_map,List.mem_cons] at hy
  obtain ⟨u,⟨t,ht,rfl⟩,hy⟩:=hy
  have hs:=h t ht
  rcases hy with rfl|hy
  ·have h1:t.1.1.1.length<=20050:=hs.1.1
   show t.1.1.1.toArray.size<=_
   simp
   omega
  ·exact flM_names d (k+1) t.2 hs.2 y hy
theorem rdC_letT {ok:Nat->Prop}{w:World}{d:Nat}{c:ChG d}{v:Value}(h:RdC ok w d c v):∃ a b e f g h' i j k l,v=.agg #[.string a,.int .i64 b,.int .i64 e,.int .i64 f,.slice g h' i,.slice j k l]:=by
 obtain ⟨sv,ss,rfl,h1,h2⟩:=h
 obtain ⟨a,cap,rfl,_⟩:=h1.form
 obtain ⟨a',cap',rfl,_⟩:=h2.form
 exact ⟨_,_,_,_,_,_,_,_,_,_,rfl⟩
theorem rdD_letT {ok:Nat->Prop}{w:World}{d:Nat}{c:ChD d}{v:Value}(h:RdD ok w d c v):∃ a b e f g h' i j k l,v=.agg #[.string a,.int .i64 b,.int .i64 e,.int .i64 f,.slice g h' i,.slice j k l]:=by
 obtain ⟨sv,ss,rfl,h1,h2⟩:=h
 obtain ⟨a,cap,rfl,_⟩:=h1.form
 obtain ⟨a',cap',rfl,_⟩:=h2.form
 exact ⟨_,_,_,_,_,_,_,_,_,_,rfl⟩
theorem nodes_th {ok:Nat->Prop}{w:World}{d:Nat}{c:ChD d}{v:Value}(hsm:SmCh d c) (h:RdC ok w d (thC d c) v) (hok:∀ b,ok b->b < w.heap.size) :
  Calls Tryz.prog 28 #[v] w fun e w'=>∃ ra rn rc l,e=.returned (.slice ra rn rc)/\RdNd (fun b=>w.heap.size<=b) w' l (.slice ra rn rc)/\fmB l=true/\l.length=rn/\l=ndsM (flM d 0 (thC d c).2.2.2)/\Below w.heap.size w w':=by
 refine (tnodes_any h hok (by show (flM d 0 (c.2.2.2.map (thS d))).length<=_;rw [flM_len];have:=hsm.2.2.1;omega) (flM_names d 0 c.2.2.2 hsm.2.2.2)).mono ?_
 rintro e w' ⟨r,rfl,hr,hb⟩
 obtain ⟨a,cap,rfl,_⟩:=hr.form
 exact ⟨_,_,_,_,rfl,hr,ndsM_formed d _,rfl,rfl,hb⟩
def flA (d:Nat) (rc:Int->Nat->List (St d)->List (Int × SgS)) (p:Int):Nat->List (St (d+1))->List (Int × SgS)
 | _,[]=>[]
 | m,t :: r=>(p,⟨d+1,t⟩) :: (rc m (m+1) t.2++flA d rc p (m+1+(rc m (m+1) t.2).length) r)
def flP:(d:Nat)->Int->Nat->List (St d)->List (Int × SgS)
 | 0,_,_,_=>[]
 | d+1,p,m,l=>flA d (flP d) p m l
theorem flA_len (d k:Nat) (rc:Int->Nat->List (St d)->List (Int × SgS)) (h:∀ p m l,(rc p m l).map (fun x=>x.2)=(flM d (k+1) l).map (fun x=>x.2)) (p:Int):∀ (l:List (St (d+1))) (m:Nat),(flA d rc p m l).map (fun x=>x.2)=(flM (d+1) k l).map (fun x=>x.2)
 | [],_=>rfl
 | t :: r,m=>by
  have h2:=flA_len d k rc h p r (m+1+(rc m (m+1) t.2).length)
  simp only [flA,List.map_cons,List.map_append,h,h2]
  simp [flM]
theorem flP_st:∀ (d k:Nat) (p:Int) (m:Nat) (l:List (St d)),(flP d p m l).map (fun x=>x.2)=(flM d k l).map (fun x=>x.2)
 | 0,_,_,_,_=>rfl
 | d+1,k,p,m,l=>flA_len d k (flP d) (fun p m l=>flP_st d (k+1) p m l) p l m
theorem flP_len (d k:Nat) (p:Int) (m:Nat) (l:List (St d)):(flP d p m l).length=(flM d k l).length:=by
 have:=congrArg List.length (flP_st d k p m l)
 simpa using this
def sgH:SgS->HdC
 | ⟨0,t⟩=>Empty.elim t
 | ⟨_+1,t⟩=>t.1
def sgN (x:SgS):ByteArray:=⟨(sgH x).1.1.toArray⟩
def sgP (x:SgS):Pl:=(sgH x).1.2
def sgO (x:SgS):List OnC:=(sgH x).2.2.2.2
def sgI:SgS->Nat
 | ⟨0,t⟩=>Empty.elim t
 | ⟨_+1,t⟩=>t.2.length
def ixF (p:Nat->Bool):Nat->Nat->Int
 | 0,_=>-1
 | k+1,i=>if p i=true then (i:Int) else ixF p k (i+1)
theorem ixF_lt (p:Nat->Bool):∀ k i,ixF p k i < (i+k:Nat)
 | 0,_=>by unfold ixF;omega
 | k+1,i=>by
  unfold ixF
  split
  ·omega
  ·have:=ixF_lt p k (i+1)
   omega
theorem ixF_at (p:Nat->Bool):∀ k i (m:Nat),ixF p k i=m->i<=m/\m < i+k/\p m=true/\∀ j,i<=j->j < m->p j=false
 | 0,i,m,h=>by unfold ixF at h;omega
 | k+1,i,m,h=>by
  unfold ixF at h
  by_cases hp:p i=true
  ·rw [if_pos hp] at h
   have:i=m:=by omega
   subst this
   exact ⟨Nat.le_refl _,by omega,hp,fun j h1 h2=>by omega⟩
  ·rw [if_neg hp] at h
   obtain ⟨h1,h2,h3,h4⟩:=ixF_at p k (i+1) m h
   refine ⟨by omega,by omega,h3,fun j h5 h6=>?_⟩
   by_cases e:j=i
   ·subst e;simpa using hp
   ·exact h4 j (by omega) h6
def frO (q:Nat->Bool):List OnC->Nat->Option Pl
 | [],_=>none
 | o :: r,j=>if q j=true then some o.2.2.2.2 else frO q r (j+1)
def frS (p:Nat->Bool) (q:Nat->Nat->Bool):List (Int × SgS)->Nat->Option Pl
 | [],_=>none
 | x :: r,i=>if p i=true then some (sgP x.2) else match frO (q i) (sgO x.2) 0 with
  | some a=>some a
  | none=>frS p q r (i+1)
theorem con_res {w4:World}{R:Nat}{a b c d e f:Value}{tmps:Array Value}(hR:Bn w4 R [a,b,c,d,e,f]) (ht:tmps.getD 2 undef=.pointer (some ⟨R,0,none⟩)):(results Tryz.f114 tmps).run Tryz.prog w4=.ok (.agg #[a,b,c,d,e,f]) w4:=by
 have ht':tmps[2]?.getD undef=.pointer (some ⟨R,0,none⟩):=by simpa using ht
 have c0:=(hR 0 _ rfl).1
 have c1:=(hR 1 _ rfl).1
 have c2:=(hR 2 _ rfl).1
 have c3:=(hR 3 _ rfl).1
 have c4:=(hR 4 _ rfl).1
 have c5:=(hR 5 _ rfl).1
 simp [results,Tryz.results114,go_sem,ht',c0,c1,c2,c3,c4,c5]
theorem son_nil {ok:Nat->Prop}{w:World}(ev tg:ByteArray) (s1:Option Addr) (ns s3:Nat) (ol oc:Int) (l:List (List UInt8 × Sx)) (h1:ev.size<=140737488351232) (h3:tg.size<=140737488351232) (h2:∀ w1,Calls Tryz.prog 148 #[.nilIface] w1 fun e w'=>e=.returned (.nilIface)/\Below w1.heap.size w1 w')
  (hs:RdK ok w 2 (rSet ok w) l (.slice s1 ns s3)) (hn:l.length=ns) (hl:ns<=100000) (hok:∀ s∈l,SetOk s):Calls Tryz.prog 114 #[.agg #[.string ev,.nilIface,.string tg,.slice s1 ns s3,.int .i64 ol,.int .i64 oc]] w fun e w'=>∃ u1 u3,e=.returned (.agg #[.string ev,.nilIface,.string tg,.slice u1 ns u3,.int .i64 0,.int .i64 0])/\RdK (Nw w.heap.size w') w' 2 (rSet (Nw w.heap.size w') w') l (.slice u1 ns u3)/\Below w.heap.size w w':=by
 have g1:=fun w1=>pClone_any ev w1 h1
 have g3:=fun w1=>pClone_any tg w1 h3
 have hal:Below w.heap.size w ((w.alloc (.cells #[.string ev,.nilIface,.string tg,.slice s1 ns s3,.int .i64 ol,.int .i64 oc] 88)).alloc (.cells #[.string ⟨#[]⟩,.nilIface,.string ⟨#[]⟩,.slice none 0 0,.int .i64 0,.int .i64 0] 88)):=((Below.refl w.heap.size w).alloc Nat.le.refl _).alloc (by simp) _
 have hX:Bn ((w.alloc (.cells #[.string ev,.nilIface,.string tg,.slice s1 ns s3,.int .i64 ol,.int .i64 oc] 88)).alloc (.cells #[.string ⟨#[]⟩,.nilIface,.string ⟨#[]⟩,.slice none 0 0,.int .i64 0,.int .i64 0] 88)) w.heap.size [.string ev,.nilIface,.string tg,.slice s1 ns s3,.int .i64 ol,.int .i64 oc]:=(Bn.new w [.string ev,.nilIface,.string tg,.slice s1 ns s3,.int .i64 ol,.int .i64 oc] 88 _ rfl).on ((Below.refl _ _).alloc Nat.le.refl _)
 have hR:Bn ((w.alloc (.cells #[.string ev,.nilIface,.string tg,.slice s1 ns s3,.int .i64 ol,.int .i64 oc] 88)).alloc (.cells #[.string ⟨#[]⟩,.nilIface,.string ⟨#[]⟩,.slice none 0 0,.int .i64 0,.int .i64 0] 88)) (w.heap.size+1) [.string ⟨#[]⟩,.nilIface,.string ⟨#[]⟩,.slice none 0 0,.int .i64 0,.int .i64 0]:=Bn.new (w.alloc (.cells #[.string ev,.nilIface,.string tg,.slice s1 ns s3,.int .i64 ol,.int .i64 oc] 88)) [.string ⟨#[]⟩,.nilIface,.string ⟨#[]⟩,.slice none 0 0,.int .i64 0,.int .i64 0] 88 _ (by simp)
 have hsz:w.heap.size+2<=((w.alloc (.cells #[.string ev,.nilIface,.string tg,.slice s1 ns s3,.int .i64 ol,.int .i64 oc] 88)).alloc (.cells #[.string ⟨#[]⟩,.nilIface,.string ⟨#[]⟩,.slice none 0 0,.int .i64 0,.int .i64 0] 88)).heap.size:=by simp
 go_enter Tryz.func114,Tryz.ntmps114
 go_upto_region 1 with fail
 generalize ((w.alloc (.cells #[.string ev,.nilIface,.string tg,.slice s1 ns s3,.int .i64 ol,.int .i64 oc] 88)).alloc (.cells #[.string ⟨#[]⟩,.nilIface,.string ⟨#[]⟩,.slice none 0 0,.int .i64 0,.int .i64 0] 88))=wx at *
 have hE:∀ w1,Below wx.heap.size wx w1->Calls Tryz.prog 149 #[.slice s1 ns s3,.func (.func 150) #[] #[]] w1 fun e w'=>∃ u1 u3,e=.returned (.slice u1 ns u3)/\RdK (Nw wx.heap.size w') w' 2 (rSet (Nw wx.heap.size w') w') l (.slice u1 ns u3)/\Below w1.heap.size w1 w':=fun w1 b1=>by
  have hs1:=hs.stay kp_set (ok':=ok) (w':=w1) (fun b hb hl=>⟨hb,(b1.block b (Nat.lt_of_lt_of_le hl hal.size)).trans (hal.block b hl)⟩)
  refine (eachSet_any hs1 (by omega) hok).mono ?_
  rintro e w' ⟨u,h1,h2,h3⟩
  obtain ⟨u1,u3,rfl,_⟩:=h2.form
  rw [hn] at h1 h2
  exact ⟨u1,u3,h1,h2.stay kp_set (fun b hb hl=>hb.to (Nat.le_trans b1.size hb.1) rfl),h3⟩
 have hB:Below wx.heap.size wx wx:=Below.refl _ _
 have c0:=(hX 0 _ rfl).1
 have c1:=(hX 1 _ rfl).1
 have c2:=(hX 2 _ rfl).1
 have c3:=(hX 3 _ rfl).1
 have hlt:=hX.lt
 obtain ⟨S,hS⟩:∃ S,w.heap.size=S:=⟨_,rfl⟩
 rw [hS] at c0 c1 c2 c3 hlt hR hsz ⊢
 have HS:Hid (w.heap.size=S):=hS
 clear hs hX hS
 have n1:S≠S+1:=by omega
 have y0:=c0
 have y1:=c1
 have y2:=c2
 have y3:=c3
 go_region_held_law (fun w'=>w'.cell? ⟨S,0,none⟩=some (.string ev)/\w'.cell? ⟨S,1,none⟩=some (.nilIface)/\w'.cell? ⟨S,2,none⟩=some (.string tg)/\w'.cell? ⟨S,3,none⟩=some (.slice s1 ns s3))
  ((refine ⟨?_,?_,?_,?_⟩<;>(repeat (with_reducible first|exact y0|exact y1|exact y2|exact y3|refine cell_dr ?_|refine cell_far4 (ne_pt n1) ?_))<;>done))
  (first
   | (go_at_call 13;(with_reducible refine (g1 _).mono ?_);rintro e w1 ⟨rfl,b1⟩;(first|have hB:=Below.nxd hB b1|have hB:=Below.nx hB b1);have hR1:=hR.on hB;obtain ⟨r0,f0⟩:=hR1 0 _ rfl;obtain ⟨r1,f1⟩:=hR1 1 _ rfl;obtain ⟨r2,f2⟩:=hR1 2 _ rfl;obtain ⟨r3,f3⟩:=hR1 3 _ rfl;obtain ⟨r4,f4⟩:=hR1 4 _ rfl;obtain ⟨r5,f5⟩:=hR1 5 _ rfl;have y0:=(hB.cell (p:=⟨S,0,none⟩) hlt).trans c0;have y1:=(hB.cell (p:=⟨S,1,none⟩) hlt).trans c1;have y2:=(hB.cell (p:=⟨S,2,none⟩) hlt).trans c2;have y3:=(hB.cell (p:=⟨S,3,none⟩) hlt).trans c3;(first|have hBr:=Below.nxd hBr b1|have hBr:=Below.nx hBr b1|skip))
   | (go_at_call 13;(with_reducible refine (g3 _).mono ?_);rintro e w1 ⟨rfl,b1⟩;(first|have hB:=Below.nxd hB b1|have hB:=Below.nx hB b1);have hR1:=hR.on hB;obtain ⟨r0,f0⟩:=hR1 0 _ rfl;obtain ⟨r1,f1⟩:=hR1 1 _ rfl;obtain ⟨r2,f2⟩:=hR1 2 _ rfl;obtain ⟨r3,f3⟩:=hR1 3 _ rfl;obtain ⟨r4,f4⟩:=hR1 4 _ rfl;obtain ⟨r5,f5⟩:=hR1 5 _ rfl;have y0:=(hB.cell (p:=⟨S,0,none⟩) hlt).trans c0;have y1:=(hB.cell (p:=⟨S,1,none⟩) hlt).trans c1;have y2:=(hB.cell (p:=⟨S,2,none⟩) hlt).trans c2;have y3:=(hB.cell (p:=⟨S,3,none⟩) hlt).trans c3;(first|have hBr:=Below.nxd hBr b1|have hBr:=Below.nx hBr b1|skip))
   | (go_at_call 148;(with_reducible refine (h2 _).mono ?_);rintro e w1 ⟨rfl,b1⟩;(first|have hB:=Below.nxd hB b1|have hB:=Below.nx hB b1);have hR1:=hR.on hB;obtain ⟨r0,f0⟩:=hR1 0 _ rfl;obtain ⟨r1,f1⟩:=hR1 1 _ rfl;obtain ⟨r2,f2⟩:=hR1 2 _ rfl;obtain ⟨r3,f3⟩:=hR1 3 _ rfl;obtain ⟨r4,f4⟩:=hR1 4 _ rfl;obtain ⟨r5,f5⟩:=hR1 5 _ rfl;have y0:=(hB.cell (p:=⟨S,0,none⟩) hlt).trans c0;have y1:=(hB.cell (p:=⟨S,1,none⟩) hlt).trans c1;have y2:=(hB.cell (p:=⟨S,2,none⟩) hlt).trans c2;have y3:=(hB.cell (p:=⟨S,3,none⟩) hlt).trans c3;(first|have hBr:=Below.nxd hBr b1|have hBr:=Below.nx hBr b1|skip))
   | (go_at_call 149;(with_reducible first|refine (hE _ hB).mono ?_|refine (hE _ hB.drew).mono ?_);rintro e w1 ⟨u1,u3,rfl,hr,b1⟩;(first|have hB:=Below.nxd hB b1|have hB:=Below.nx hB b1);have hR1:=hR.on hB;obtain ⟨r0,f0⟩:=hR1 0 _ rfl;obtain ⟨r1,f1⟩:=hR1 1 _ rfl;obtain ⟨r2,f2⟩:=hR1 2 _ rfl;obtain ⟨r3,f3⟩:=hR1 3 _ rfl;obtain ⟨r4,f4⟩:=hR1 4 _ rfl;obtain ⟨r5,f5⟩:=hR1 5 _ rfl;have y0:=(hB.cell (p:=⟨S,0,none⟩) hlt).trans c0;have y1:=(hB.cell (p:=⟨S,1,none⟩) hlt).trans c1;have y2:=(hB.cell (p:=⟨S,2,none⟩) hlt).trans c2;have y3:=(hB.cell (p:=⟨S,3,none⟩) hlt).trans c3;have hBr:Below w1.heap.size w1 w1:=(Below.refl _ _))
   | fail)
 all_goals (
  have hrz:=hr.stay kp_set (ok':=Nw w.heap.size (putL w1 (S+1) 0 [.string ev,.nilIface,.string tg,.slice u1 ns u3,.int .i64 0,.int .i64 0])) (w':=putL w1 (S+1) 0 [.string ev,.nilIface,.string tg,.slice u1 ns u3,.int .i64 0,.int .i64 0]) (fun b hb hl=>hb.to (by have:=HS.out;have:=hb.1;omega) ((putL_heap _ _ _ _ _ (by have:=hb.1;omega)).trans (hBr.block b hl)))
  have hR2:=(((((hR1.set (i:=0) (by simp) (.string ev)).set (i:=1) (by simp) (.nilIface)).set (i:=2) (by simp) (.string tg)).set (i:=3) (by simp) (.slice u1 ns u3)).set (i:=4) (by simp) (.int .i64 0)).set (i:=5) (by simp) (.int .i64 0)
  have hb2:=putL_below [.string ev,.nilIface,.string tg,.slice u1 ns u3,.int .i64 0,.int .i64 0] w1 (S+1) 0 (hal.trans (hB.mono (by have:=hal.size;omega))) (by have:=HS.out;omega)
  go_wp2
  exact bodyPost_ret (con_res hR2 rfl) rfl ⟨u1,u3,rfl,hrz,hb2⟩)
theorem son_ifc {ok:Nat->Prop}{w:World}(ev tg:ByteArray) (gu:TypeId) (gy:Value) (s1:Option Addr) (ns s3:Nat) (ol oc:Int) (l:List (List UInt8 × Sx)) (h1:ev.size<=140737488351232) (h3:tg.size<=140737488351232) (h2:∀ w1,Calls Tryz.prog 148 #[.iface gu gy] w1 fun e w'=>e=.returned (.iface gu gy)/\Below w1.heap.size w1 w')
  (hs:RdK ok w 2 (rSet ok w) l (.slice s1 ns s3)) (hn:l.length=ns) (hl:ns<=100000) (hok:∀ s∈l,SetOk s):Calls Tryz.prog 114 #[.agg #[.string ev,.iface gu gy,.string tg,.slice s1 ns s3,.int .i64 ol,.int .i64 oc]] w fun e w'=>∃ u1 u3,e=.returned (.agg #[.string ev,.iface gu gy,.string tg,.slice u1 ns u3,.int .i64 0,.int .i64 0])/\RdK (Nw w.heap.size w') w' 2 (rSet (Nw w.heap.size w') w') l (.slice u1 ns u3)/\Below w.heap.size w w':=by
 have g1:=fun w1=>pClone_any ev w1 h1
 have g3:=fun w1=>pClone_any tg w1 h3
 have hal:Below w.heap.size w ((w.alloc (.cells #[.string ev,.iface gu gy,.string tg,.slice s1 ns s3,.int .i64 ol,.int .i64 oc] 88)).alloc (.cells #[.string ⟨#[]⟩,.nilIface,.string ⟨#[]⟩,.slice none 0 0,.int .i64 0,.int .i64 0] 88)):=((Below.refl w.heap.size w).alloc Nat.le.refl _).alloc (by simp) _
 have hX:Bn ((w.alloc (.cells #[.string ev,.iface gu gy,.string tg,.slice s1 ns s3,.int .i64 ol,.int .i64 oc] 88)).alloc (.cells #[.string ⟨#[]⟩,.nilIface,.string ⟨#[]⟩,.slice none 0 0,.int .i64 0,.int .i64 0] 88)) w.heap.size [.string ev,.iface gu gy,.string tg,.slice s1 ns s3,.int .i64 ol,.int .i64 oc]:=(Bn.new w [.string ev,.iface gu gy,.string tg,.slice s1 ns s3,.int .i64 ol,.int .i64 oc] 88 _ rfl).on ((Below.refl _ _).alloc Nat.le.refl _)
 have hR:Bn ((w.alloc (.cells #[.string ev,.iface gu gy,.string tg,.slice s1 ns s3,.int .i64 ol,.int .i64 oc] 88)).alloc (.cells #[.string ⟨#[]⟩,.nilIface,.string ⟨#[]⟩,.slice none 0 0,.int .i64 0,.int .i64 0] 88)) (w.heap.size+1) [.string ⟨#[]⟩,.nilIface,.string ⟨#[]⟩,.slice none 0 0,.int .i64 0,.int .i64 0]:=Bn.new (w.alloc (.cells #[.string ev,.iface gu gy,.string tg,.slice s1 ns s3,.int .i64 ol,.int .i64 oc] 88)) [.string ⟨#[]⟩,.nilIface,.string ⟨#[]⟩,.slice none 0 0,.int .i64 0,.int .i64 0] 88 _ (by simp)
 have hsz:w.heap.size+2<=((w.alloc (.cells #[.string ev,.iface gu gy,.string tg,.slice s1 ns s3,.int .i64 ol,.int .i64 oc] 88)).alloc (.cells #[.string ⟨#[]⟩,.nilIface,.string ⟨#[]⟩,.slice none 0 0,.int .i64 0,.int .i64 0] 88)).heap.size:=by simp
 go_enter Tryz.func114,Tryz.ntmps114
 go_upto_region 1 with fail
 generalize ((w.alloc (.cells #[.string ev,.iface gu gy,.string tg,.slice s1 ns s3,.int .i64 ol,.int .i64 oc] 88)).alloc (.cells #[.string ⟨#[]⟩,.nilIface,.string ⟨#[]⟩,.slice none 0 0,.int .i64 0,.int .i64 0] 88))=wx at *
 have hE:∀ w1,Below wx.heap.size wx w1->Calls Tryz.prog 149 #[.slice s1 ns s3,.func (.func 150) #[] #[]] w1 fun e w'=>∃ u1 u3,e=.returned (.slice u1 ns u3)/\RdK (Nw wx.heap.size w') w' 2 (rSet (Nw wx.heap.size w') w') l (.slice u1 ns u3)/\Below w1.heap.size w1 w':=fun w1 b1=>by
  have hs1:=hs.stay kp_set (ok':=ok) (w':=w1) (fun b hb hl=>⟨hb,(b1.block b (Nat.lt_of_lt_of_le hl hal.size)).trans (hal.block b hl)⟩)
  refine (eachSet_any hs1 (by omega) hok).mono ?_
  rintro e w' ⟨u,h1,h2,h3⟩
  obtain ⟨u1,u3,rfl,_⟩:=h2.form
  rw [hn] at h1 h2
  exact ⟨u1,u3,h1,h2.stay kp_set (fun b hb hl=>hb.to (Nat.le_trans b1.size hb.1) rfl),h3⟩
 have hB:Below wx.heap.size wx wx:=Below.refl _ _
 have c0:=(hX 0 _ rfl).1
 have c1:=(hX 1 _ rfl).1
 have c2:=(hX 2 _ rfl).1
 have c3:=(hX 3 _ rfl).1
 have hlt:=hX.lt
 obtain ⟨S,hS⟩:∃ S,w.heap.size=S:=⟨_,rfl⟩
 rw [hS] at c0 c1 c2 c3 hlt hR hsz ⊢
 have HS:Hid (w.heap.size=S):=hS
 clear hs hX hS
 have n1:S≠S+1:=by omega
 have y0:=c0
 have y1:=c1
 have y2:=c2
 have y3:=c3
 go_region_held_law (fun w'=>w'.cell? ⟨S,0,none⟩=some (.string ev)/\w'.cell? ⟨S,1,none⟩=some (.iface gu gy)/\w'.cell? ⟨S,2,none⟩=some (.string tg)/\w'.cell? ⟨S,3,none⟩=some (.slice s1 ns s3))
  ((refine ⟨?_,?_,?_,?_⟩<;>(repeat (with_reducible first|exact y0|exact y1|exact y2|exact y3|refine cell_dr ?_|refine cell_far4 (ne_pt n1) ?_))<;>done))
  (first
   | (go_at_call 13;(with_reducible refine (g1 _).mono ?_);rintro e w1 ⟨rfl,b1⟩;(first|have hB:=Below.nxd hB b1|have hB:=Below.nx hB b1);have hR1:=hR.on hB;obtain ⟨r0,f0⟩:=hR1 0 _ rfl;obtain ⟨r1,f1⟩:=hR1 1 _ rfl;obtain ⟨r2,f2⟩:=hR1 2 _ rfl;obtain ⟨r3,f3⟩:=hR1 3 _ rfl;obtain ⟨r4,f4⟩:=hR1 4 _ rfl;obtain ⟨r5,f5⟩:=hR1 5 _ rfl;have y0:=(hB.cell (p:=⟨S,0,none⟩) hlt).trans c0;have y1:=(hB.cell (p:=⟨S,1,none⟩) hlt).trans c1;have y2:=(hB.cell (p:=⟨S,2,none⟩) hlt).trans c2;have y3:=(hB.cell (p:=⟨S,3,none⟩) hlt).trans c3;(first|have hBr:=Below.nxd hBr b1|have hBr:=Below.nx hBr b1|skip))
   | (go_at_call 13;(with_reducible refine (g3 _).mono ?_);rintro e w1 ⟨rfl,b1⟩;(first|have hB:=Below.nxd hB b1|have hB:=Below.nx hB b1);have hR1:=hR.on hB;obtain ⟨r0,f0⟩:=hR1 0 _ rfl;obtain ⟨r1,f1⟩:=hR1 1 _ rfl;obtain ⟨r2,f2⟩:=hR1 2 _ rfl;obtain ⟨r3,f3⟩:=hR1 3 _ rfl;obtain ⟨r4,f4⟩:=hR1 4 _ rfl;obtain ⟨r5,f5⟩:=hR1 5 _ rfl;have y0:=(hB.cell (p:=⟨S,0,none⟩) hlt).trans c0;have y1:=(hB.cell (p:=⟨S,1,none⟩) hlt).trans c1;have y2:=(hB.cell (p:=⟨S,2,none⟩) hlt).trans c2;have y3:=(hB.cell (p:=⟨S,3,none⟩) hlt).trans c3;(first|have hBr:=Below.nxd hBr b1|have hBr:=Below.nx hBr b1|skip))
   | (go_at_call 148;(with_reducible refine (h2 _).mono ?_);rintro e w1 ⟨rfl,b1⟩;(first|have hB:=Below.nxd hB b1|have hB:=Below.nx hB b1);have hR1:=hR.on hB;obtain ⟨r0,f0⟩:=hR1 0 _ rfl;obtain ⟨r1,f1⟩:=hR1 1 _ rfl;obtain ⟨r2,f2⟩:=hR1 2 _ rfl;obtain ⟨r3,f3⟩:=hR1 3 _ rfl;obtain ⟨r4,f4⟩:=hR1 4 _ rfl;obtain ⟨r5,f5⟩:=hR1 5 _ rfl;have y0:=(hB.cell (p:=⟨S,0,none⟩) hlt).trans c0;have y1:=(hB.cell (p:=⟨S,1,none⟩) hlt).trans c1;have y2:=(hB.cell (p:=⟨S,2,none⟩) hlt).trans c2;have y3:=(hB.cell (p:=⟨S,3,none⟩) hlt).trans c3;(first|have hBr:=Below.nxd hBr b1|have hBr:=Below.nx hBr b1|skip))
   | (go_at_call 149;(with_reducible first|refine (hE _ hB).mono ?_|refine (hE _ hB.drew).mono ?_);rintro e w1 ⟨u1,u3,rfl,hr,b1⟩;(first|have hB:=Below.nxd hB b1|have hB:=Below.nx hB b1);have hR1:=hR.on hB;obtain ⟨r0,f0⟩:=hR1 0 _ rfl;obtain ⟨r1,f1⟩:=hR1 1 _ rfl;obtain ⟨r2,f2⟩:=hR1 2 _ rfl;obtain ⟨r3,f3⟩:=hR1 3 _ rfl;obtain ⟨r4,f4⟩:=hR1 4 _ rfl;obtain ⟨r5,f5⟩:=hR1 5 _ rfl;have y0:=(hB.cell (p:=⟨S,0,none⟩) hlt).trans c0;have y1:=(hB.cell (p:=⟨S,1,none⟩) hlt).trans c1;have y2:=(hB.cell (p:=⟨S,2,none⟩) hlt).trans c2;have y3:=(hB.cell (p:=⟨S,3,none⟩) hlt).trans c3;have hBr:Below w1.heap.size w1 w1:=(Below.refl _ _))
   | fail)
 all_goals (
  have hrz:=hr.stay kp_set (ok':=Nw w.heap.size (putL w1 (S+1) 0 [.string ev,.iface gu gy,.string tg,.slice u1 ns u3,.int .i64 0,.int .i64 0])) (w':=putL w1 (S+1) 0 [.string ev,.iface gu gy,.string tg,.slice u1 ns u3,.int .i64 0,.int .i64 0]) (fun b hb hl=>hb.to (by have:=HS.out;have:=hb.1;omega) ((putL_heap _ _ _ _ _ (by have:=hb.1;omega)).trans (hBr.block b hl)))
  have hR2:=(((((hR1.set (i:=0) (by simp) (.string ev)).set (i:=1) (by simp) (.iface gu gy)).set (i:=2) (by simp) (.string tg)).set (i:=3) (by simp) (.slice u1 ns u3)).set (i:=4) (by simp) (.int .i64 0)).set (i:=5) (by simp) (.int .i64 0)
  have hb2:=putL_below [.string ev,.iface gu gy,.string tg,.slice u1 ns u3,.int .i64 0,.int .i64 0] w1 (S+1) 0 (hal.trans (hB.mono (by have:=hal.size;omega))) (by have:=HS.out;omega)
  go_wp2
  exact bodyPost_ret (con_res hR2 rfl) rfl ⟨u1,u3,rfl,hrz,hb2⟩)
def stO (o:OnC):OnC:=(o.1,o.2.1,o.2.2.1,o.2.2.2.1,(0,0))
def stS:(d:Nat)->St d->St d
 | 0,t=>Empty.elim t
 | d+1,t=>show HdC × List (St d) from (((t.1.1.1,(0,0)),t.1.2.1,t.1.2.2.1,t.1.2.2.2.1,t.1.2.2.2.2.map stO),t.2.map (stS d))
theorem Tryz.infoEOn:(Tryz.prog.info? 88).map (fun i=>(i.zero,i.size,i.bytes))=some (some (.agg #[.string ⟨#[]⟩,.nilIface,.string ⟨#[]⟩,.slice none 0 0,.int .i64 0,.int .i64 0]),6,88):=by kernel_rfl
def OnOk (o:OnC):Prop:=o.1.length<=140737488351232/\o.2.2.1.length<=140737488351232/\(o.2.1.1=true->ExOk o.2.1.2)/\(∀ s∈o.2.2.2.1,SetOk s)/\o.2.2.2.1.length<=100000
theorem exOk_no:ExOk noX:=⟨cl_none (d:=0),by show cntX noX<=2000;decide,rfl⟩
theorem onQ_at {ok:Nat->Prop}{w:World}{l:List OnC}{a:Option Addr}{n cap:Nat}(h:RdK ok w 6 (rOn ok w) l (.slice a n cap)) (j:Nat) (hj:j < l.length):∃ b off s1 s3,a=some ⟨b,off,none⟩/\b < w.heap.size/\RdK ok w 2 (rSet ok w) l[j].2.2.2.1 (.slice s1 l[j].2.2.2.1.length s3)/\∀ i u,(onV l[j] (.slice s1 l[j].2.2.2.1.length s3))[i]?=some u->w.cell? ⟨b,off+j*6+i,none⟩=some u:=by
 obtain ⟨a1,cap1,he,h1,h2,h3⟩:=h
 simp only [Value.slice.injEq] at he
 obtain ⟨rfl,rfl,rfl⟩:=he
 obtain ⟨b,off,cs,ha,_,hb,hl,⟨sl,rfl,hs⟩,hc⟩:=h3 j hj
 obtain ⟨s1,s3,rfl,_⟩:=hs.form
 exact ⟨b,off,s1,s3,ha,hb,hs,hc⟩
theorem copG {o:OnC}(h:OnOk o) (w:World):Calls Tryz.prog 148 #[gdV o.2.1] w fun e w'=>e=.returned (gdV o.2.1)/\Below w.heap.size w w':=by
 unfold gdV
 split
 ·next hb=>exact copX (h.2.2.1 hb) w
 ·exact copX exOk_no w
theorem eachOn_any {ok:Nat->Prop}{w:World}{l:List OnC}{v:Value}(h:RdK ok w 6 (rOn ok w) l v) (hl:l.length<=100000) (hok:∀ s∈l,OnOk s) :
  Calls Tryz.prog 113 #[v,.func (.func 114) #[] #[]] w fun e w'=>∃ u,e=.returned u/\RdK (Nw w.heap.size w') w' 6 (rOn (Nw w.heap.size w') w') (l.map stO) u/\Below w.heap.size w w':=by
 obtain ⟨ie,hie,hie0,hie1,hie2⟩:=info_parts Tryz.infoEOn
 obtain ⟨a,cap,rfl,hlc,hcm⟩:=h.form
 unfold maxLen at hcm
 have HC:=mkHid h
 have HK:=mkHid hok
 obtain ⟨n,hn⟩:∃ n,l.length=n:=⟨_,rfl⟩
 rw [hn] at hlc hl ⊢
 have HN:Hid (l.length=n):=hn
 clear h hok hn
 have hmk:=run_make (P:=Tryz.prog) w 77 88 ie _ Tryz.underlying77 hie hie0 .i64 .i64 (n:Int) (n:Int) (by omega) (by omega) (by rw [hie2];omega) (by omega)
 rw [Int.toNat_natCast,hie1] at hmk
 have hG0:RowG (w.alloc (.cells (madeCells (.agg #[.string ⟨#[]⟩,.nilIface,.string ⟨#[]⟩,.slice none 0 0,.int .i64 0,.int .i64 0]:Value).cells (n*6)) 88)) w.heap.size 6 n rOn ([]:List (OnC)):=RowG.made w _ 6 n _ _
 have hb0:Below w.heap.size w (w.alloc (.cells (madeCells (.agg #[.string ⟨#[]⟩,.nilIface,.string ⟨#[]⟩,.slice none 0 0,.int .i64 0,.int .i64 0]:Value).cells (n*6)) 88)):=(Below.refl _ _).alloc Nat.le.refl _
 have hs0:(w.alloc (.cells (madeCells (.agg #[.string ⟨#[]⟩,.nilIface,.string ⟨#[]⟩,.slice none 0 0,.int .i64 0,.int .i64 0]:Value).cells (n*6)) 88)).heap.size=w.heap.size+1:=by simp
 generalize w.alloc (.cells (madeCells (.agg #[.string ⟨#[]⟩,.nilIface,.string ⟨#[]⟩,.slice none 0 0,.int .i64 0,.int .i64 0]:Value).cells (n*6)) 88)=w0 at *
 go_enter Tryz.func113,Tryz.ntmps113
 go_wp2
 go_loopw [13] (fun ix wr=>∃ (i:Nat),i<=n/\ix=.int .i64 (i:Int)/\RowG wr w.heap.size 6 n rOn ((l.map stO).take i)/\Below w.heap.size w wr/\w.heap.size < wr.heap.size) (fun ix _=>n - (RowKit.intOf ix).toNat)
 case atStart=>exact ⟨0,Nat.zero_le _,rfl,hG0,hb0,by omega⟩
 case round=>
  obtain ⟨i,hi,rfl,hRow,hb,hGs⟩:=hrel
  clear hG0 hb0 hs0 hmk
  by_cases hlt:i < n
  ·have hil:i < l.length:=by rw [HN.out];exact hlt
   obtain ⟨b,off,s1,s3,rfl,hbl,hSe,hc⟩:=onQ_at HC.out i hil
   have hko:=HK.out _ (List.getElem_mem hil)
   obtain ⟨o,ho⟩:∃ o,l[i]=o:=⟨_,rfl⟩
   rw [ho] at hSe hc hko
   obtain ⟨ns,hns⟩:∃ m,o.2.2.2.1.length=m:=⟨_,rfl⟩
   rw [hns] at hSe hc
   have hg:=copG hko
   obtain ⟨ev,hev⟩:∃ ev:ByteArray,⟨o.1.toArray⟩=ev:=⟨_,rfl⟩
   obtain ⟨tg,htg⟩:∃ tg:ByteArray,⟨o.2.2.1.toArray⟩=tg:=⟨_,rfl⟩
   have hz1:ev.size<=140737488351232:=by rw [<- hev];show o.1.toArray.size<=_;simpa using hko.1
   have hz2:tg.size<=140737488351232:=by rw [<- htg];show o.2.2.1.toArray.size<=_;simpa using hko.2.1
   obtain ⟨ol,hol⟩:∃ x,o.2.2.2.2.1=x:=⟨_,rfl⟩
   obtain ⟨oc,hoc⟩:∃ x,o.2.2.2.2.2=x:=⟨_,rfl⟩
   have hform:=gdV_form o.2.1
   obtain ⟨gv,hgv⟩:∃ gv,gdV o.2.1=gv:=⟨_,rfl⟩
   have hov:∀ sl,onV o sl=[.string ev,gv,.string tg,sl,.int .i64 ol,.int .i64 oc]:=fun sl=>by
    unfold onV sV
    rw [hev,htg,hol,hoc,hgv]
   have hov2:∀ sl,onV (stO o) sl=[.string ev,gv,.string tg,sl,.int .i64 0,.int .i64 0]:=fun sl=>by
    show [sV o.1,gdV o.2.1,sV o.2.2.1,sl,.int .i64 0,.int .i64 0]=_
    unfold sV
    rw [hev,htg,hgv]
   rw [hov] at hc
   rw [hgv] at hform hg
   have HQ:Hid (l[i]=o):=ho
   have HOV:Hid (∀ sl,onV (stO o) sl=[.string ev,gv,.string tg,sl,.int .i64 0,.int .i64 0]):=hov2
   have HNS:Hid (o.2.2.2.1.length=ns):=hns
   have HKO:Hid (OnOk o):=hko
   have HSE:Hid (RdK ok w 2 (rSet ok w) o.2.2.2.1 (.slice s1 ns s3)):=hSe
   clear ho hns hko hSe hev htg hol hoc hgv hov hov2
   obtain ⟨acc,hac⟩:∃ acc,(l.map stO).take i=acc:=⟨_,rfl⟩
   have hla:acc.length=i:=by rw [<- hac];simp [HN.out];omega
   rw [hac] at hRow
   have HAC:Hid ((l.map stO).take i=acc):=hac
   clear hac
   have i1:(i:Int) < (n:Int):=by omega
   have i2:(0:Int)<=(i:Int):=by omega
   have C0:=(hb.cell (p:=⟨b,off+i*6+0,none⟩) hbl).trans (hc 0 _ rfl)
   have C1:=(hb.cell (p:=⟨b,off+i*6+1,none⟩) hbl).trans (hc 1 _ rfl)
   have C2:=(hb.cell (p:=⟨b,off+i*6+2,none⟩) hbl).trans (hc 2 _ rfl)
   have C3:=(hb.cell (p:=⟨b,off+i*6+3,none⟩) hbl).trans (hc 3 _ rfl)
   have C4:=(hb.cell (p:=⟨b,off+i*6+4,none⟩) hbl).trans (hc 4 _ rfl)
   have C5:=(hb.cell (p:=⟨b,off+i*6+5,none⟩) hbl).trans (hc 5 _ rfl)
   rw [Nat.add_zero] at C0
   clear hc
   rcases hform with rfl|⟨gu,gy,rfl⟩
   ·have hal:=(Below.refl wr.heap.size wr).alloc Nat.le.refl (.cells #[.string ev,.nilIface,.string tg,.slice s1 ns s3,.int .i64 ol,.int .i64 oc] 88)
    have hX:=Bn.new wr [.string ev,.nilIface,.string tg,.slice s1 ns s3,.int .i64 ol,.int .i64 oc] 88 _ rfl
    have hRx:=hRow.on kp_on hGs hal
    have hbx:=hb.trans (hal.mono hb.size)
    have hGx:=Nat.lt_of_lt_of_le hGs hal.size
    have hcall:∀ w1,Below w.heap.size w w1->Calls Tryz.prog 114 #[.agg #[.string ev,.nilIface,.string tg,.slice s1 ns s3,.int .i64 ol,.int .i64 oc]] w1 fun e w'=>∃ u1 u3,e=.returned (.agg #[.string ev,.nilIface,.string tg,.slice u1 ns u3,.int .i64 0,.int .i64 0])/\RdK (Nw w1.heap.size w') w' 2 (rSet (Nw w1.heap.size w') w') o.2.2.2.1 (.slice u1 ns u3)/\Below w1.heap.size w1 w':=fun w1 b1=>son_nil ev tg s1 ns s3 ol oc o.2.2.2.1 hz1 hz2 hg (HSE.out.stay kp_set (ok':=ok) (fun b hb hl=>⟨hb,b1.block b hl⟩)) HNS.out (by have:=HKO.out.2.2.2.2;rw [HNS.out] at this;exact this) HKO.out.2.2.2.1
    clear hg
    go_upto_region 5 with fail
    clear C0 C1 C2 C3 C4 C5 hal
    generalize wr.alloc (.cells #[.string ev,.nilIface,.string tg,.slice s1 ns s3,.int .i64 ol,.int .i64 oc] 88)=wx at *
    obtain ⟨X,hXX⟩:∃ X,wr.heap.size=X:=⟨_,rfl⟩
    rw [hXX] at hX ⊢
    have HXX:Hid (wr.heap.size=X):=hXX
    clear hXX
    have x0:=(hX 0 _ rfl).1
    have x1:=(hX 1 _ rfl).1
    have x2:=(hX 2 _ rfl).1
    have x3:=(hX 3 _ rfl).1
    have x4:=(hX 4 _ rfl).1
    have x5:=(hX 5 _ rfl).1
    go_wp2_with (first
     | (go_at_call 114;refine (hcall _ hbx).mono ?_;rintro e w1 ⟨u1,u3,rfl,hr,b1⟩;have hp:rOn (Nw (w.heap.size+1) w1) w1 (stO o) [.string ev,.nilIface,.string tg,.slice u1 ns u3,.int .i64 0,.int .i64 0]:=(⟨.slice u1 ns u3,(HOV.out _).symm,hr.stay kp_set (fun b hb hl=>hb.to (Nat.lt_of_lt_of_le hGx hb.1) rfl)⟩);clear hr;have hR1:=hRx.on kp_on hGx b1;obtain ⟨⟨r0,q0⟩,z0⟩:=hR1.1 (i*6+0) (mul_in hlt (by omega));obtain ⟨⟨r1,q1⟩,z1⟩:=hR1.1 (i*6+1) (mul_in hlt (by omega));obtain ⟨⟨r2,q2⟩,z2⟩:=hR1.1 (i*6+2) (mul_in hlt (by omega));obtain ⟨⟨r3,q3⟩,z3⟩:=hR1.1 (i*6+3) (mul_in hlt (by omega));obtain ⟨⟨r4,q4⟩,z4⟩:=hR1.1 (i*6+4) (mul_in hlt (by omega));obtain ⟨⟨r5,q5⟩,z5⟩:=hR1.1 (i*6+5) (mul_in hlt (by omega));rw [Nat.add_zero] at q0 z0)
     | fail)
    have hP:=hR1.put kp_on (x:=stO o) (cs:=[.string ev,.nilIface,.string tg,.slice u1 ns u3,.int .i64 0,.int .i64 0]) (by rw [hla];exact hlt) rfl hp
    rw [hla] at hP
    have hb2:=putL_below [.string ev,.nilIface,.string tg,.slice u1 ns u3,.int .i64 0,.int .i64 0] w1 w.heap.size (i*6) (hbx.trans (b1.mono (Nat.le_of_lt hGx))) Nat.le.refl
    have hs2:w.heap.size < (putL w1 w.heap.size (i*6) [.string ev,.nilIface,.string tg,.slice u1 ns u3,.int .i64 0,.int .i64 0]).heap.size:=by rw [putL_size];exact Nat.lt_of_lt_of_le hGx b1.size
    have hac2:(l.map stO).take (i+1)=acc++[stO o]:=by
     rw [List.take_succ_eq_append_getElem (by simp [HN.out];omega),HAC.out]
     simp [HQ.out]
    clear x0 r0 q0 z0 x1 r1 q1 z1 x2 r2 q2 z2 x3 r3 q3 z3 x4 r4 q4 z4 x5 r5 q5 z5 hR1 hRx hp
    go_wp2
    go_roundw
    case rel=>exact ⟨i+1,hlt,by go_num,by rw [hac2];exact hP,hb2,hs2⟩
    case measure=>simp [RowKit.intOf];omega
   ·have hal:=(Below.refl wr.heap.size wr).alloc Nat.le.refl (.cells #[.string ev,.iface gu gy,.string tg,.slice s1 ns s3,.int .i64 ol,.int .i64 oc] 88)
    have hX:=Bn.new wr [.string ev,.iface gu gy,.string tg,.slice s1 ns s3,.int .i64 ol,.int .i64 oc] 88 _ rfl
    have hRx:=hRow.on kp_on hGs hal
    have hbx:=hb.trans (hal.mono hb.size)
    have hGx:=Nat.lt_of_lt_of_le hGs hal.size
    have hcall:∀ w1,Below w.heap.size w w1->Calls Tryz.prog 114 #[.agg #[.string ev,.iface gu gy,.string tg,.slice s1 ns s3,.int .i64 ol,.int .i64 oc]] w1 fun e w'=>∃ u1 u3,e=.returned (.agg #[.string ev,.iface gu gy,.string tg,.slice u1 ns u3,.int .i64 0,.int .i64 0])/\RdK (Nw w1.heap.size w') w' 2 (rSet (Nw w1.heap.size w') w') o.2.2.2.1 (.slice u1 ns u3)/\Below w1.heap.size w1 w':=fun w1 b1=>son_ifc ev tg gu gy s1 ns s3 ol oc o.2.2.2.1 hz1 hz2 hg (HSE.out.stay kp_set (ok':=ok) (fun b hb hl=>⟨hb,b1.block b hl⟩)) HNS.out (by have:=HKO.out.2.2.2.2;rw [HNS.out] at this;exact this) HKO.out.2.2.2.1
    clear hg
    go_upto_region 5 with fail
    clear C0 C1 C2 C3 C4 C5 hal
    generalize wr.alloc (.cells #[.string ev,.iface gu gy,.string tg,.slice s1 ns s3,.int .i64 ol,.int .i64 oc] 88)=wx at *
    obtain ⟨X,hXX⟩:∃ X,wr.heap.size=X:=⟨_,rfl⟩
    rw [hXX] at hX ⊢
    have HXX:Hid (wr.heap.size=X):=hXX
    clear hXX
    have x0:=(hX 0 _ rfl).1
    have x1:=(hX 1 _ rfl).1
    have x2:=(hX 2 _ rfl).1
    have x3:=(hX 3 _ rfl).1
    have x4:=(hX 4 _ rfl).1
    have x5:=(hX 5 _ rfl).1
    go_wp2_with (first
     | (go_at_call 114;refine (hcall _ hbx).mono ?_;rintro e w1 ⟨u1,u3,rfl,hr,b1⟩;have hp:rOn (Nw (w.heap.size+1) w1) w1 (stO o) [.string ev,.iface gu gy,.string tg,.slice u1 ns u3,.int .i64 0,.int .i64 0]:=(⟨.slice u1 ns u3,(HOV.out _).symm,hr.stay kp_set (fun b hb hl=>hb.to (Nat.lt_of_lt_of_le hGx hb.1) rfl)⟩);clear hr;have hR1:=hRx.on kp_on hGx b1;obtain ⟨⟨r0,q0⟩,z0⟩:=hR1.1 (i*6+0) (mul_in hlt (by omega));obtain ⟨⟨r1,q1⟩,z1⟩:=hR1.1 (i*6+1) (mul_in hlt (by omega));obtain ⟨⟨r2,q2⟩,z2⟩:=hR1.1 (i*6+2) (mul_in hlt (by omega));obtain ⟨⟨r3,q3⟩,z3⟩:=hR1.1 (i*6+3) (mul_in hlt (by omega));obtain ⟨⟨r4,q4⟩,z4⟩:=hR1.1 (i*6+4) (mul_in hlt (by omega));obtain ⟨⟨r5,q5⟩,z5⟩:=hR1.1 (i*6+5) (mul_in hlt (by omega));rw [Nat.add_zero] at q0 z0)
     | fail)
    have hP:=hR1.put kp_on (x:=stO o) (cs:=[.string ev,.iface gu gy,.string tg,.slice u1 ns u3,.int .i64 0,.int .i64 0]) (by rw [hla];exact hlt) rfl hp
    rw [hla] at hP
    have hb2:=putL_below [.string ev,.iface gu gy,.string tg,.slice u1 ns u3,.int .i64 0,.int .i64 0] w1 w.heap.size (i*6) (hbx.trans (b1.mono (Nat.le_of_lt hGx))) Nat.le.refl
    have hs2:w.heap.size < (putL w1 w.heap.size (i*6) [.string ev,.iface gu gy,.string tg,.slice u1 ns u3,.int .i64 0,.int .i64 0]).heap.size:=by rw [putL_size];exact Nat.lt_of_lt_of_le hGx b1.size
    have hac2:(l.map stO).take (i+1)=acc++[stO o]:=by
     rw [List.take_succ_eq_append_getElem (by simp [HN.out];omega),HAC.out]
     simp [HQ.out]
    clear x0 r0 q0 z0 x1 r1 q1 z1 x2 r2 q2 z2 x3 r3 q3 z3 x4 r4 q4 z4 x5 r5 q5 z5 hR1 hRx hp
    go_wp2
    go_roundw
    case rel=>exact ⟨i+1,hlt,by go_num,by rw [hac2];exact hP,hb2,hs2⟩
    case measure=>simp [RowKit.intOf];omega
  ·have i1:¬ (i:Int) < (n:Int):=by omega
   have hin:i=n:=by omega
   have hfull:(l.map stO).take i=l.map stO:=List.take_of_length_le (by simp [HN.out];omega)
   rw [hfull] at hRow
   have hrd:=hRow.rd kp_on hGs (by simp [HN.out]) (by unfold maxLen;omega)
   go_wp2
   go_ret
   exact ⟨_,rfl,hrd,hb⟩
