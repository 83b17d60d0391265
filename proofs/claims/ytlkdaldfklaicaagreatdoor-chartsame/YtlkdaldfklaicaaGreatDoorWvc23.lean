import Derived.Test.YtlkdaldfklaicaaGreatDoorWvc01
import Derived.Test.YtlkdaldfklaicaaGreatDoorWvc22
import Derived.Test.YtlkdaldfklaicaaGreatDoorWvc10
import Derived.Test.YtlkdaldfklaicaaGreatDoorWvc21
import Derived.Test.YtlkdaldfklaicaaGreatDoorWvc18
import Derived.Lib.FrozenHead
import Derived.Lib.OthersKept
import Derived.Test.YtlkdaldfklaicaaGreatDoorRows
import Derived.Deep.RegionHeldLaw
import Derived.Test.YtlkdaldfklaicaaGreatDoorWvc03
import Derived.Test.YtlkdaldfklaicaaGreatDoorWvc06
import Derived.Test.YtlkdaldfklaicaaGreatDoorWvc04
import Derived.Test.YtlkdaldfklaicaaGreatDoorWvc02
import Derived.Test.YtlkdaldfklaicaaGreatDoorWvc20
import Derived.Test.YtlkdaldfklaicaaGreatDoorWvc11
import Derived.Test.YtlkdaldfklaicaaGreatDoorWvc09
set_option maxRecDepth 100000
set_option maxHeartbeats 32000000
namespace Go.Proofs.YtlkdaldfklaicaaGreatDoor
open Go.RowKit Go.Lib
set_option linter.unusedSimpArgs false
set_option linter.unusedVariables false
attribute [local go_sem ↓] Go.wp_at_zero Go.wp_at_succ
theorem zlN {w4:World}{R:Nat}{a b c d e f:Value}{tmps:Array Value}(hR:Bn w4 R [a,b,c,d,e,f]) (ht:tmps.getD 2 undef=.pointer (some ⟨R,0,none⟩)):(results Tryz.f10 tmps).run Tryz.prog w4=.ok (.agg #[a,b,c,d,e,f]) w4:=by
 have ht':tmps[2]?.getD undef=.pointer (some ⟨R,0,none⟩):=by simpa using ht
 have c0:=(hR 0 _ rfl).1
 have c1:=(hR 1 _ rfl).1
 have c2:=(hR 2 _ rfl).1
 have c3:=(hR 3 _ rfl).1
 have c4:=(hR 4 _ rfl).1
 have c5:=(hR 5 _ rfl).1
 simp [results,Tryz.results10,go_sem,ht',c0,c1,c2,c3,c4,c5]
theorem zl6 {ok:Nat->Prop}{w:World}{d:Nat}{c:ChG d}{v:Value}(h:RdC ok w d c v) (hok:∀ t∈c.2.2.2,OkS d t) (hl1:c.2.2.2.length<=3001) (hl2:c.2.2.1.length<=3001) :
  Calls Tryz.prog 10 #[v] w fun e w'=>∃ u,e=.returned u/\RdD (fun b=>w.heap.size<=b) w' d c u/\Below w.heap.size w w':=by
 obtain ⟨iv,hiv,hiv0,hiv1,hiv2⟩:=info_parts Tryz.infoVarD
 obtain ⟨sv,ss,rfl,hv,hs⟩:=h
 obtain ⟨a,cap,rfl,hlc,hcm⟩:=hv.form
 obtain ⟨p4,p6,rfl,_⟩:=hs.form
 unfold maxLen at hcm
 have HV:=zm hv
 have hcall:=fun w1 (b1:Below w.heap.size w w1)=>zjH d ok w1 c.2.2.2 _ (hs.stay (zp d) (fun k hk hl=>⟨hk,b1.block k hl⟩)) hok hl1
 obtain ⟨nv,hnv⟩:∃ nv,sV c.1.1=.string nv:=⟨_,rfl⟩
 obtain ⟨n,hn⟩:∃ n,c.2.2.1.length=n:=⟨_,rfl⟩
 obtain ⟨i,hi⟩:∃ n,c.2.2.2.length=n:=⟨_,rfl⟩
 obtain ⟨vn,hvn⟩:∃ x,c.2.1=x:=⟨_,rfl⟩
 obtain ⟨ln,hln⟩:∃ x,c.1.2.1=x:=⟨_,rfl⟩
 obtain ⟨co,hco⟩:∃ x,c.1.2.2=x:=⟨_,rfl⟩
 rw [hnv,hvn,hln,hco,hi,hn]
 rw [hi] at hcall
 rw [hn] at hlc hl2
 have HN:Hid (c.2.2.1.length=n):=hn
 have HR:Hid (∀ (ok':Nat->Prop) (w':World) (a':Option Addr) (c':Nat) (b':Option Addr) (e':Nat),RdK ok' w' 4 (zb0 ok' w') c.2.2.1 (.slice a' n c')->RdK ok' w' 11 (zad d ok' w') c.2.2.2 (.slice b' i e')->RdD ok' w' d c (.agg #[.string nv,.int .i64 vn,.int .i64 ln,.int .i64 co,.slice a' n c',.slice b' i e'])):=by
  intro ok' w' a' c' b' e' h1 h2
  refine ⟨_,_,?_,h1,h2⟩
  rw [show sD c.1.1=sV c.1.1 from rfl,hnv,hvn,hln,hco]
 have hcall2:∀ w1,Below w.heap.size w w1->Calls Tryz.prog 21 #[.slice p4 i p6] w1 fun e w'=>∃ iq ic,e=.returned (.slice iq i ic)/\RdK (fun b=>w1.heap.size<=b) w' 11 (zad d (fun b=>w1.heap.size<=b) w') c.2.2.2 (.slice iq i ic)/\Below w1.heap.size w1 w':=fun w1 b1=>(hcall w1 b1).mono (fun e w' hh=>by
  obtain ⟨u,h1,h2,h3⟩:=hh
  obtain ⟨iq,ic,rfl,_⟩:=h2.form
  rw [hi] at h1 h2
  exact ⟨iq,ic,h1,h2,h3⟩)
 clear hcall hv hs hok hl1 hn hi hnv hvn hln hco
 have hal:Below w.heap.size w ((w.alloc (.cells #[.string nv,.int .i64 vn,.int .i64 ln,.int .i64 co,.slice a n cap,.slice p4 i p6] 33)).alloc (.cells #[.string ⟨#[]⟩,.int .i64 0,.int .i64 0,.int .i64 0,.slice none 0 0,.slice none 0 0] 27)):=((Below.refl w.heap.size w).alloc zn2 _).alloc (by simp) _
 have hX:Bn ((w.alloc (.cells #[.string nv,.int .i64 vn,.int .i64 ln,.int .i64 co,.slice a n cap,.slice p4 i p6] 33)).alloc (.cells #[.string ⟨#[]⟩,.int .i64 0,.int .i64 0,.int .i64 0,.slice none 0 0,.slice none 0 0] 27)) w.heap.size [.string nv,.int .i64 vn,.int .i64 ln,.int .i64 co,.slice a n cap,.slice p4 i p6]:=(Bn.new w [.string nv,.int .i64 vn,.int .i64 ln,.int .i64 co,.slice a n cap,.slice p4 i p6] 33 _ rfl).on (zn3.alloc zn2 _)
 have hR:Bn ((w.alloc (.cells #[.string nv,.int .i64 vn,.int .i64 ln,.int .i64 co,.slice a n cap,.slice p4 i p6] 33)).alloc (.cells #[.string ⟨#[]⟩,.int .i64 0,.int .i64 0,.int .i64 0,.slice none 0 0,.slice none 0 0] 27)) (w.heap.size+1) [.string ⟨#[]⟩,.int .i64 0,.int .i64 0,.int .i64 0,.slice none 0 0,.slice none 0 0]:=Bn.new (w.alloc (.cells #[.string nv,.int .i64 vn,.int .i64 ln,.int .i64 co,.slice a n cap,.slice p4 i p6] 33)) [.string ⟨#[]⟩,.int .i64 0,.int .i64 0,.int .i64 0,.slice none 0 0,.slice none 0 0] 27 _ (by simp)
 have hsz:((w.alloc (.cells #[.string nv,.int .i64 vn,.int .i64 ln,.int .i64 co,.slice a n cap,.slice p4 i p6] 33)).alloc (.cells #[.string ⟨#[]⟩,.int .i64 0,.int .i64 0,.int .i64 0,.slice none 0 0,.slice none 0 0] 27)).heap.size=w.heap.size+2:=by simp
 go_enter Tryz.func10,Tryz.ntmps10
 go_upto_region 1 with fail
 generalize ((w.alloc (.cells #[.string nv,.int .i64 vn,.int .i64 ln,.int .i64 co,.slice a n cap,.slice p4 i p6] 33)).alloc (.cells #[.string ⟨#[]⟩,.int .i64 0,.int .i64 0,.int .i64 0,.slice none 0 0,.slice none 0 0] 27))=wx at *
 obtain ⟨S,hS⟩:∃ S,w.heap.size=S:=⟨_,rfl⟩
 rw [hS] at hX hR hsz ⊢
 have HS:Hid (w.heap.size=S):=hS
 have hbx:Below w.heap.size w wx:=hal
 have hSw:w.heap.size<=S:=by omega
 clear hS hal
 go_cut [3] (fun u3 wc=>∃ Q iq ic,u3=.pointer (some ⟨Q,0,none⟩)/\S+2<=Q/\Bn wc Q [.string nv,.int .i64 vn,.int .i64 ln,.int .i64 co,.slice none 0 0,.slice iq i ic]/\RdK (fun k=>S+2<=k/\k≠Q) wc 11 (zad d (fun k=>S+2<=k/\k≠Q) wc) c.2.2.2 (.slice iq i ic)/\Below (S+2) wx wc)
 case first=>
  have hbz:Below w.heap.size w (wx.alloc (.cells #[.string ⟨#[]⟩,.int .i64 0,.int .i64 0,.int .i64 0,.slice none 0 0,.slice none 0 0] 27)):=hbx.alloc hbx.size _
  have hZ0:Bn (wx.alloc (.cells #[.string ⟨#[]⟩,.int .i64 0,.int .i64 0,.int .i64 0,.slice none 0 0,.slice none 0 0] 27)) (S+2) [.string ⟨#[]⟩,.int .i64 0,.int .i64 0,.int .i64 0,.slice none 0 0,.slice none 0 0]:=Bn.new wx [.string ⟨#[]⟩,.int .i64 0,.int .i64 0,.int .i64 0,.slice none 0 0,.slice none 0 0] 27 _ hsz.symm
  have hzx:(wx.alloc (.cells #[.string ⟨#[]⟩,.int .i64 0,.int .i64 0,.int .i64 0,.slice none 0 0,.slice none 0 0] 27)).heap.size=S+3:=by simp;omega
  have n1:S≠S+2:=by omega
  have X0:=(hX 0 _ rfl).1
  have X1:=(hX 1 _ rfl).1
  have X2:=(hX 2 _ rfl).1
  have X3:=(hX 3 _ rfl).1
  have X5:=(hX 5 _ rfl).1
  clear HV HR hR
  go_region_held_law (fun w'=>w'.cell? ⟨S,0,none⟩=some (.string nv)/\w'.cell? ⟨S,1,none⟩=some (.int .i64 vn)/\w'.cell? ⟨S,2,none⟩=some (.int .i64 ln)/\w'.cell? ⟨S,3,none⟩=some (.int .i64 co)/\w'.cell? ⟨S,5,none⟩=some (.slice p4 i p6))
   (((refine ⟨?_,?_,?_,?_,?_⟩<;>(repeat (with_reducible first|exact X0|exact X1|exact X2|exact X3|exact X5|exact Y0|exact Y1|exact Y2|exact Y3|exact Y5|refine zj ?_|refine zh ?_|refine za (zg n1) ?_|refine za (zg n2) ?_))<;>done)))
   (first
    | (go_at_call 21;(with_reducible refine (hcall2 _ hbx.drew).mono ?_);rintro e w1 ⟨iq,ic,rfl,hr1,b1⟩;have bw:Below wx.heap.size wx w1:=((Below.refl _ wx).drew).trans b1;have n2:S≠w1.heap.size:=(by have:=bw.size;omega);have kc:∀ p u,wx.cell? p=some u->w1.cell? p=some u:=fun p u hp=>(by rw [bw.cell (World.block_lt_of_cell? wx _ hp)];exact hp);have Y0:=kc _ _ X0;have Y1:=kc _ _ X1;have Y2:=kc _ _ X2;have Y3:=kc _ _ X3;have Y5:=kc _ _ X5)
    | (go_at_call 21;(with_reducible refine (hcall2 _ hbz.drew).mono ?_);rintro e w1 ⟨iq,ic,rfl,hr1,b1⟩;have bz:Below (wx.alloc (.cells #[.string ⟨#[]⟩,.int .i64 0,.int .i64 0,.int .i64 0,.slice none 0 0,.slice none 0 0] 27)).heap.size (wx.alloc (.cells #[.string ⟨#[]⟩,.int .i64 0,.int .i64 0,.int .i64 0,.slice none 0 0,.slice none 0 0] 27)) w1:=((Below.refl _ (wx.alloc (.cells #[.string ⟨#[]⟩,.int .i64 0,.int .i64 0,.int .i64 0,.slice none 0 0,.slice none 0 0] 27))).drew).trans b1;have bw:Below wx.heap.size wx w1:=((Below.refl wx.heap.size wx).alloc zn2 (.cells #[.string ⟨#[]⟩,.int .i64 0,.int .i64 0,.int .i64 0,.slice none 0 0,.slice none 0 0] 27)).trans (bz.mono (by rw [hsz,hzx];omega));have kc:∀ p u,wx.cell? p=some u->w1.cell? p=some u:=fun p u hp=>(by rw [bw.cell (World.block_lt_of_cell? wx _ hp)];exact hp);have Y0:=kc _ _ X0;have Y1:=kc _ _ X1;have Y2:=kc _ _ X2;have Y3:=kc _ _ X3;have Y5:=kc _ _ X5;have hZ:=hZ0.on bz;obtain ⟨z0,f0⟩:=hZ 0 _ rfl;obtain ⟨z1,f1⟩:=hZ 1 _ rfl;obtain ⟨z2,f2⟩:=hZ 2 _ rfl;obtain ⟨z3,f3⟩:=hZ 3 _ rfl;obtain ⟨z4,f4⟩:=hZ 4 _ rfl;obtain ⟨z5,f5⟩:=hZ 5 _ rfl)
    | fail)
  ·have bw2:Below (S+2) wx w1:=by rw [<- hsz];exact bw
   have hs1:S+2<=w1.heap.size:=by have:=bw.size;omega
   have hr2:=hr1.stay (zy d) (ok':=fun k=>S+2<=k/\k≠w1.heap.size) (w':=w1.alloc (.cells #[.string nv,.int .i64 vn,.int .i64 ln,.int .i64 co,.slice none 0 0,.slice iq i ic] 27)) (fun k hk hl=>⟨⟨by have hk':wx.heap.size<=k:=hk;omega,by omega⟩,((Below.refl w1.heap.size w1).alloc zn2 _).block k hl⟩)
   go_wp2
   go_meet
   case rel=>exact ⟨w1.heap.size,iq,ic,rfl,hs1,Bn.new w1 [.string nv,.int .i64 vn,.int .i64 ln,.int .i64 co,.slice none 0 0,.slice iq i ic] 27 _ rfl,hr2,bw2.alloc hs1 _⟩
  ·have bw2:Below (S+2) wx w1:=by rw [<- hsz];exact bw
   have hQ2:=((((((hZ.set (i:=0) (by simp) (.string nv)).set (i:=1) (by simp) (.int .i64 vn)).set (i:=2) (by simp) (.int .i64 ln)).set (i:=3) (by simp) (.int .i64 co)).set (i:=4) (by simp) (.slice none 0 0)).set (i:=5) (by simp) (.slice iq i ic))
   have hb2:=zx [.string nv,.int .i64 vn,.int .i64 ln,.int .i64 co,.slice none 0 0,.slice iq i ic] w1 (S+2) 0 bw2 zn2
   have hr2:=hr1.stay (zy d) (ok':=fun k=>S+2<=k/\k≠S+2) (w':=zV w1 (S+2) 0 [.string nv,.int .i64 vn,.int .i64 ln,.int .i64 co,.slice none 0 0,.slice iq i ic]) (fun k hk hl=>⟨by have hk':(wx.alloc (.cells #[.string ⟨#[]⟩,.int .i64 0,.int .i64 0,.int .i64 0,.slice none 0 0,.slice none 0 0] 27)).heap.size<=k:=hk;omega,zt _ _ _ _ _ (by have hk':(wx.alloc (.cells #[.string ⟨#[]⟩,.int .i64 0,.int .i64 0,.int .i64 0,.slice none 0 0,.slice none 0 0] 27)).heap.size<=k:=hk;omega)⟩)
   go_wp2
   go_meet
   case rel=>exact ⟨S+2,iq,ic,rfl,Nat.le_refl _,hQ2,hr2,hb2⟩
 case rest=>
  obtain ⟨Q,iq,ic,rfl,hQ,hQb,hQr,hbq⟩:=hcut
  have hXc:=hX.blk (hbq.block S (by omega))
  have hRc:=hR.blk (hbq.block (S+1) (by omega))
  have hbw:=hbx.trans (hbq.mono (by omega))
  obtain ⟨wk,hwk⟩:∃ x,x=wc:=⟨_,rfl⟩
  subst hwk
  have hql:Q < wk.heap.size:=hQb.lt
  have hws:=hXc.lt
  have hwr:=hRc.lt
  have x4:=(hXc 4 _ rfl).1
  go_wp2
  go_loopw [18] (fun ix wr=>∃ (j:Nat) (sl2:Value),j<=n/\ix=.int .i64 (j:Int)/\Bn wr Q [.string nv,.int .i64 vn,.int .i64 ln,.int .i64 co,sl2,.slice iq i ic]/\OwnB wr wk.heap.size (fun _=>False) 50 4 zb0 sl2 (c.2.2.1.take j)/\Fx Q wk wr) (fun ix _=>n - (RowKit.intOf ix).toNat)
  case atStart=>exact ⟨0,_,Nat.zero_le _,rfl,hQb,zZ _ _ _ _ _ _,Fx.refl _ _⟩
  case round=>
   clear x4
   obtain ⟨j,sl2,hj,rfl,hQB,hRow,hF⟩:=hrel
   obtain ⟨acj,hacj⟩:∃ acj,c.2.2.1.take j=acj:=⟨_,rfl⟩
   have hlj:acj.length=j:=by rw [<- hacj,List.length_take,HN.out];omega
   rw [hacj] at hRow
   have HACJ:Hid (c.2.2.1.take j=acj):=hacj
   clear hacj
   obtain ⟨ra,rc,rfl,hrl,hrm⟩:=hRow.form
   rw [hlj] at hRow hQB hrl
   have hXr:=hXc.fx hF (by omega)
   have hFs:=hF.size
   have hbr:Below w.heap.size w wr:=hF.bel hbw (by omega) zn2
   by_cases hjl:j < n
   ·have hjt:j < c.2.2.1.length:=by rw [HN.out];exact hjl
    obtain ⟨b,off,rfl,hbl,hc⟩:=zcL HV.out j hjt
    obtain ⟨q,hq⟩:∃ q,c.2.2.1[j]=q:=⟨_,rfl⟩
    rw [hq] at hc
    obtain ⟨sn,sv,sl,sc,hsv⟩:∃ sn sv sl sc,zcy q=[.string sn,.int .i64 sv,.int .i64 sl,.int .i64 sc]:=⟨_,_,_,_,rfl⟩
    rw [hsv] at hc
    have hp:zb0 (fun b=>wr.heap.size<=b) wr q [.string sn,.int .i64 sv,.int .i64 sl,.int .i64 sc]:=hsv.symm
    have HQ:Hid (c.2.2.1[j]=q):=hq
    clear hsv hq
    have C0:=(hbr.cell (p:=⟨b,off+j*4+0,none⟩) hbl).trans (hc 0 _ rfl)
    have C1:=(hbr.cell (p:=⟨b,off+j*4+1,none⟩) hbl).trans (hc 1 _ rfl)
    have C2:=(hbr.cell (p:=⟨b,off+j*4+2,none⟩) hbl).trans (hc 2 _ rfl)
    have C3:=(hbr.cell (p:=⟨b,off+j*4+3,none⟩) hbl).trans (hc 3 _ rfl)
    rw [Nat.add_zero] at C0
    clear hc
    have P4:=(hXr 4 _ rfl).1
    obtain ⟨k4,z4⟩:=hQB 4 _ rfl
    have i3:(j:Int) < (n:Int):=by omega
    have i4:(0:Int)<=(j:Int):=by omega
    have hali:=(Below.refl wr.heap.size wr).alloc zn2 (.cells #[.string sn,.int .i64 sv,.int .i64 sl,.int .i64 sc] 50)
    have hQa:=hQB.on hali
    obtain ⟨m4,o4⟩:=hQa 4 _ rfl
    go_upto_region 5 with fail
    go_region_law (first
     | (refine zH wr.drew rfl _ _ 24 rfl wk.heap.size (fun _=>False) 50 iv (.agg #[.string ⟨#[]⟩,.int .i64 0,.int .i64 0,.int .i64 0]) 4 40 Tryz.underlying24 hiv hiv0 hiv1 hiv2 rfl za4 (.slice ra j rc) acj q [.string sn,.int .i64 sv,.int .i64 sl,.int .i64 sc] wr.heap.size rfl rfl rfl (by simp [Value.oneCell']) hRow hp hFs (fun x hx=>(hRow.lt x hx).2) (fun b hb=>hb.elim) (by omega) (by unfold maxLen;omega) hFs ?_;intro vb wb hOb2 hgb2 hbb hat;have hBb:=hQB.blk (hbb.block _ hql);obtain ⟨m5,n5⟩:=hBb 4 _ rfl;obtain ⟨vba,vbc,hvb,hvbl,hvbm⟩:=hOb2.form;rw [List.length_append,List.length_singleton,hlj] at hvb;subst hvb)
     | fail)
    all_goals (
     have hBc:=hBb.set (i:=4) (by simp) (.slice vba (j+1) vbc)
     have hRc2:=hOb2.set za4 (X:=Q) (i:=4) hql (.slice vba (j+1) vbc)
     have hFc:=((hF.drew).andD hbb zn2).setX (i:=4) (.slice vba (j+1) vbc)
     have hac2:c.2.2.1.take (j+1)=acj++[q]:=by rw [List.take_succ_eq_append_getElem hjt,HACJ.out,HQ.out]
     clear hQa m4 o4 hali hgb2 hbb hat hBb m5 n5 hOb2 k4 z4 P4 C0 C1 C2 C3
     go_wp2
     go_roundw
     case rel=>exact ⟨j+1,_,hjl,by go_num,hBc,by rw [hac2];exact hRc2,hFc⟩
     case measure=>simp [RowKit.intOf];omega)
   ·have i3:¬ (j:Int) < (n:Int):=by omega
    have hjn:j=n:=by omega
    subst hjn
    have hfull:acj=c.2.2.1:=by rw [<- HACJ.out];exact List.take_of_length_le (by rw [HN.out];omega)
    have hRr:=hRc.fx hF (by omega)
    have hS2:=HS.out
    have hvars:=(hRow.rd za4).stay za4 (ok':=fun b=>S+2<=b) (w':=zV wr (S+1) 0 [.string nv,.int .i64 vn,.int .i64 ln,.int .i64 co,.slice ra j rc,.slice iq i ic]) (fun b hb hl=>⟨by omega,zt _ _ _ _ _ (by omega)⟩)
    rw [hfull] at hvars
    have hstates:=hQr.stay (zy d) (ok':=fun b=>S+2<=b) (w':=zV wr (S+1) 0 [.string nv,.int .i64 vn,.int .i64 ln,.int .i64 co,.slice ra j rc,.slice iq i ic]) (fun b hb hl=>⟨hb.1,(zt _ _ _ _ _ (by omega)).trans (hF.block b hl (fun e=>hb.2 (Option.some.inj e)))⟩)
    have hfin:=HR.out _ _ _ _ _ _ (hvars.stay za4 (ok':=fun b=>w.heap.size<=b) (fun b hb hl=>⟨by omega,rfl⟩)) (hstates.stay (zy d) (ok':=fun b=>w.heap.size<=b) (fun b hb hl=>⟨by omega,rfl⟩))
    have hbz:=zx [.string nv,.int .i64 vn,.int .i64 ln,.int .i64 co,.slice ra j rc,.slice iq i ic] wr (S+1) 0 hbr (by omega)
    clear hS2
    have t0:=(hQB 0 _ rfl).1
    obtain ⟨r0,f0⟩:=hRr 0 _ rfl
    have t1:=(hQB 1 _ rfl).1
    obtain ⟨r1,f1⟩:=hRr 1 _ rfl
    have t2:=(hQB 2 _ rfl).1
    obtain ⟨r2,f2⟩:=hRr 2 _ rfl
    have t3:=(hQB 3 _ rfl).1
    obtain ⟨r3,f3⟩:=hRr 3 _ rfl
    have t4:=(hQB 4 _ rfl).1
    obtain ⟨r4,f4⟩:=hRr 4 _ rfl
    have t5:=(hQB 5 _ rfl).1
    obtain ⟨r5,f5⟩:=hRr 5 _ rfl
    have hRz:=(((((hRr.set (i:=0) (by simp) (.string nv)).set (i:=1) (by simp) (.int .i64 vn)).set (i:=2) (by simp) (.int .i64 ln)).set (i:=3) (by simp) (.int .i64 co)).set (i:=4) (by simp) (.slice ra j rc)).set (i:=5) (by simp) (.slice iq i ic)
    go_wp2
    exact bodyPost_ret (zlN hRz rfl) rfl ⟨_,rfl,hfin,hbz⟩
def dtV (x:List UInt8 × Int × Pl):List UInt8 × Int × Pl:=(x.1,x.2.1,(0,0))
def dtC (d:Nat) (c:ChD d):ChD d:=((c.1.1,(0,0)),c.2.1,c.2.2.1.map dtV,c.2.2.2.map (dtS d))
theorem zlD {w4:World}{R:Nat}{a b c d e f:Value}{tmps:Array Value}(hR:Bn w4 R [a,b,c,d,e,f]) (ht:tmps.getD 2 undef=.pointer (some ⟨R,0,none⟩)):(results Tryz.f12 tmps).run Tryz.prog w4=.ok (.agg #[a,b,c,d,e,f]) w4:=by
 have ht':tmps[2]?.getD undef=.pointer (some ⟨R,0,none⟩):=by simpa using ht
 have c0:=(hR 0 _ rfl).1
 have c1:=(hR 1 _ rfl).1
 have c2:=(hR 2 _ rfl).1
 have c3:=(hR 3 _ rfl).1
 have c4:=(hR 4 _ rfl).1
 have c5:=(hR 5 _ rfl).1
 simp [results,Tryz.results12,go_sem,ht',c0,c1,c2,c3,c4,c5]
theorem zhj {ok:Nat->Prop}{w:World}{d:Nat}{c:ChD d}{v:Value}(h:RdD ok w d c v) (hok:∀ t∈c.2.2.2,LnT d t) (hl1:c.2.2.2.length<=400) (hl2:c.2.2.1.length<=3001) :
  Calls Tryz.prog 12 #[v] w fun e w'=>∃ u,e=.returned u/\RdD (fun _=>True) w' d (dtC d c) u/\Below w.heap.size w w':=by
 obtain ⟨iv,hiv,hiv0,hiv1,hiv2⟩:=info_parts Tryz.infoVarD
 obtain ⟨sv,ss,rfl,hv,hs⟩:=h
 obtain ⟨a,cap,rfl,hlc,hcm⟩:=hv.form
 obtain ⟨p4,p6,rfl,_⟩:=hs.form
 unfold maxLen at hcm
 have HV:=zm hv
 have hcall:=fun w1 (b1:Below w.heap.size w w1)=>zjO d w.heap.size w1 c.2.2.2 _ b1.size (hs.stay (zy d) (ok':=fun b=>b < w.heap.size) (fun k hk hl=>⟨hl,b1.block k hl⟩)) hl1 hok
 obtain ⟨nv,hnv⟩:∃ nv,sD c.1.1=.string nv:=⟨_,rfl⟩
 obtain ⟨n,hn⟩:∃ n,c.2.2.1.length=n:=⟨_,rfl⟩
 obtain ⟨i,hi⟩:∃ n,c.2.2.2.length=n:=⟨_,rfl⟩
 obtain ⟨vn,hvn⟩:∃ x,c.2.1=x:=⟨_,rfl⟩
 obtain ⟨ln,hln⟩:∃ x,c.1.2.1=x:=⟨_,rfl⟩
 obtain ⟨co,hco⟩:∃ x,c.1.2.2=x:=⟨_,rfl⟩
 rw [hnv,hvn,hln,hco,hi,hn]
 rw [hi] at hcall
 rw [hn] at hlc hl2
 have HN:Hid (c.2.2.1.length=n):=hn
 have HR:Hid (∀ (ok':Nat->Prop) (w':World) (a':Option Addr) (c':Nat) (b':Option Addr) (e':Nat),RdK ok' w' 4 (zb0 ok' w') (c.2.2.1.map dtV) (.slice a' n c')->RdK ok' w' 11 (zad d ok' w') (c.2.2.2.map (dtS d)) (.slice b' i e')->RdD ok' w' d (dtC d c) (.agg #[.string nv,.int .i64 vn,.int .i64 0,.int .i64 0,.slice a' n c',.slice b' i e'])):=by
  intro ok' w' a' c' b' e' h1 h2
  refine ⟨_,_,?_,h1,h2⟩
  show _=Value.agg #[sD c.1.1,.int .i64 c.2.1,.int .i64 0,.int .i64 0,_,_]
  rw [hnv,hvn]
 have hcall2:∀ w1,Below w.heap.size w w1->Calls Tryz.prog 27 #[.slice p4 i p6] w1 fun e w'=>∃ iq ic,e=.returned (.slice iq i ic)/\RdK (fun b=>b < w.heap.size∨w1.heap.size<=b) w' 11 (zad d (fun b=>b < w.heap.size∨w1.heap.size<=b) w') (c.2.2.2.map (dtS d)) (.slice iq i ic)/\Below w1.heap.size w1 w':=fun w1 b1=>(hcall w1 b1).mono (fun e w' hh=>by
  obtain ⟨u,h1,h2,h3⟩:=hh
  obtain ⟨iq,ic,rfl,_⟩:=h2.form
  rw [List.length_map,hi] at h1 h2
  exact ⟨iq,ic,h1,h2,h3⟩)
 clear hcall hv hs hok hl1 hn hi hnv hvn hln hco
 have hal:Below w.heap.size w ((w.alloc (.cells #[.string nv,.int .i64 vn,.int .i64 ln,.int .i64 co,.slice a n cap,.slice p4 i p6] 27)).alloc (.cells #[.string ⟨#[]⟩,.int .i64 0,.int .i64 0,.int .i64 0,.slice none 0 0,.slice none 0 0] 27)):=((Below.refl w.heap.size w).alloc zn2 _).alloc (by simp) _
 have hX:Bn ((w.alloc (.cells #[.string nv,.int .i64 vn,.int .i64 ln,.int .i64 co,.slice a n cap,.slice p4 i p6] 27)).alloc (.cells #[.string ⟨#[]⟩,.int .i64 0,.int .i64 0,.int .i64 0,.slice none 0 0,.slice none 0 0] 27)) w.heap.size [.string nv,.int .i64 vn,.int .i64 ln,.int .i64 co,.slice a n cap,.slice p4 i p6]:=(Bn.new w [.string nv,.int .i64 vn,.int .i64 ln,.int .i64 co,.slice a n cap,.slice p4 i p6] 27 _ rfl).on (zn3.alloc zn2 _)
 have hR:Bn ((w.alloc (.cells #[.string nv,.int .i64 vn,.int .i64 ln,.int .i64 co,.slice a n cap,.slice p4 i p6] 27)).alloc (.cells #[.string ⟨#[]⟩,.int .i64 0,.int .i64 0,.int .i64 0,.slice none 0 0,.slice none 0 0] 27)) (w.heap.size+1) [.string ⟨#[]⟩,.int .i64 0,.int .i64 0,.int .i64 0,.slice none 0 0,.slice none 0 0]:=Bn.new (w.alloc (.cells #[.string nv,.int .i64 vn,.int .i64 ln,.int .i64 co,.slice a n cap,.slice p4 i p6] 27)) [.string ⟨#[]⟩,.int .i64 0,.int .i64 0,.int .i64 0,.slice none 0 0,.slice none 0 0] 27 _ (by simp)
 have hsz:((w.alloc (.cells #[.string nv,.int .i64 vn,.int .i64 ln,.int .i64 co,.slice a n cap,.slice p4 i p6] 27)).alloc (.cells #[.string ⟨#[]⟩,.int .i64 0,.int .i64 0,.int .i64 0,.slice none 0 0,.slice none 0 0] 27)).heap.size=w.heap.size+2:=by simp
 go_enter Tryz.func12,Tryz.ntmps12
 go_upto_region 1 with fail
 generalize ((w.alloc (.cells #[.string nv,.int .i64 vn,.int .i64 ln,.int .i64 co,.slice a n cap,.slice p4 i p6] 27)).alloc (.cells #[.string ⟨#[]⟩,.int .i64 0,.int .i64 0,.int .i64 0,.slice none 0 0,.slice none 0 0] 27))=wx at *
 obtain ⟨S,hS⟩:∃ S,w.heap.size=S:=⟨_,rfl⟩
 rw [hS] at hX hR hsz ⊢
 have HS:Hid (w.heap.size=S):=hS
 have hbx:Below w.heap.size w wx:=hal
 have hSw:w.heap.size<=S:=by omega
 clear hS hal
 go_cut [3] (fun u3 wc=>∃ Q iq ic,u3=.pointer (some ⟨Q,0,none⟩)/\S+2<=Q/\Bn wc Q [.string nv,.int .i64 vn,.int .i64 0,.int .i64 0,.slice none 0 0,.slice iq i ic]/\RdK (fun k=>(k < S∨S+2<=k)/\k≠Q) wc 11 (zad d (fun k=>(k < S∨S+2<=k)/\k≠Q) wc) (c.2.2.2.map (dtS d)) (.slice iq i ic)/\Below (S+2) wx wc)
 case first=>
  have hbz:Below w.heap.size w (wx.alloc (.cells #[.string ⟨#[]⟩,.int .i64 0,.int .i64 0,.int .i64 0,.slice none 0 0,.slice none 0 0] 27)):=hbx.alloc hbx.size _
  have hZ0:Bn (wx.alloc (.cells #[.string ⟨#[]⟩,.int .i64 0,.int .i64 0,.int .i64 0,.slice none 0 0,.slice none 0 0] 27)) (S+2) [.string ⟨#[]⟩,.int .i64 0,.int .i64 0,.int .i64 0,.slice none 0 0,.slice none 0 0]:=Bn.new wx [.string ⟨#[]⟩,.int .i64 0,.int .i64 0,.int .i64 0,.slice none 0 0,.slice none 0 0] 27 _ hsz.symm
  have hzx:(wx.alloc (.cells #[.string ⟨#[]⟩,.int .i64 0,.int .i64 0,.int .i64 0,.slice none 0 0,.slice none 0 0] 27)).heap.size=S+3:=by simp;omega
  have n1:S≠S+2:=by omega
  have X0:=(hX 0 _ rfl).1
  have X1:=(hX 1 _ rfl).1
  have X5:=(hX 5 _ rfl).1
  clear HV HR hR
  go_region_held_law (fun w'=>w'.cell? ⟨S,0,none⟩=some (.string nv)/\w'.cell? ⟨S,1,none⟩=some (.int .i64 vn)/\w'.cell? ⟨S,5,none⟩=some (.slice p4 i p6))
   (((refine ⟨?_,?_,?_⟩<;>(repeat (with_reducible first|exact X0|exact X1|exact X5|exact Y0|exact Y1|exact Y5|refine zj ?_|refine zh ?_|refine za (zg n1) ?_|refine za (zg n2) ?_))<;>done)))
   (first
    | (go_at_call 27;(with_reducible refine (hcall2 _ hbx.drew).mono ?_);rintro e w1 ⟨iq,ic,rfl,hr1,b1⟩;have bw:Below wx.heap.size wx w1:=((Below.refl _ wx).drew).trans b1;have n2:S≠w1.heap.size:=(by have:=bw.size;omega);have kc:∀ p u,wx.cell? p=some u->w1.cell? p=some u:=fun p u hp=>(by rw [bw.cell (World.block_lt_of_cell? wx _ hp)];exact hp);have Y0:=kc _ _ X0;have Y1:=kc _ _ X1;have Y5:=kc _ _ X5)
    | (go_at_call 27;(with_reducible refine (hcall2 _ hbz.drew).mono ?_);rintro e w1 ⟨iq,ic,rfl,hr1,b1⟩;have bz:Below (wx.alloc (.cells #[.string ⟨#[]⟩,.int .i64 0,.int .i64 0,.int .i64 0,.slice none 0 0,.slice none 0 0] 27)).heap.size (wx.alloc (.cells #[.string ⟨#[]⟩,.int .i64 0,.int .i64 0,.int .i64 0,.slice none 0 0,.slice none 0 0] 27)) w1:=((Below.refl _ (wx.alloc (.cells #[.string ⟨#[]⟩,.int .i64 0,.int .i64 0,.int .i64 0,.slice none 0 0,.slice none 0 0] 27))).drew).trans b1;have bw:Below wx.heap.size wx w1:=((Below.refl wx.heap.size wx).alloc zn2 (.cells #[.string ⟨#[]⟩,.int .i64 0,.int .i64 0,.int .i64 0,.slice none 0 0,.slice none 0 0] 27)).trans (bz.mono (by rw [hsz,hzx];omega));have kc:∀ p u,wx.cell? p=some u->w1.cell? p=some u:=fun p u hp=>(by rw [bw.cell (World.block_lt_of_cell? wx _ hp)];exact hp);have Y0:=kc _ _ X0;have Y1:=kc _ _ X1;have Y5:=kc _ _ X5;have hZ:=hZ0.on bz;obtain ⟨z0,f0⟩:=hZ 0 _ rfl;obtain ⟨z1,f1⟩:=hZ 1 _ rfl;obtain ⟨z2,f2⟩:=hZ 2 _ rfl;obtain ⟨z3,f3⟩:=hZ 3 _ rfl;obtain ⟨z4,f4⟩:=hZ 4 _ rfl;obtain ⟨z5,f5⟩:=hZ 5 _ rfl)
    | fail)
  ·have bw2:Below (S+2) wx w1:=by rw [<- hsz];exact bw
   have hs1:S+2<=w1.heap.size:=by have:=bw.size;omega
   have hr2:=hr1.stay (zy d) (ok':=fun k=>(k < S∨S+2<=k)/\k≠w1.heap.size) (w':=w1.alloc (.cells #[.string nv,.int .i64 vn,.int .i64 0,.int .i64 0,.slice none 0 0,.slice iq i ic] 27)) (fun k hk hl=>⟨⟨by have hk':k < w.heap.size∨wx.heap.size<=k:=hk;have:=HS.out;omega,by omega⟩,((Below.refl w1.heap.size w1).alloc zn2 _).block k hl⟩)
   go_wp2
   go_meet
   case rel=>exact ⟨w1.heap.size,iq,ic,rfl,hs1,Bn.new w1 [.string nv,.int .i64 vn,.int .i64 0,.int .i64 0,.slice none 0 0,.slice iq i ic] 27 _ rfl,hr2,bw2.alloc hs1 _⟩
  ·have bw2:Below (S+2) wx w1:=by rw [<- hsz];exact bw
   have hQ2:=((((((hZ.set (i:=0) (by simp) (.string nv)).set (i:=1) (by simp) (.int .i64 vn)).set (i:=2) (by simp) (.int .i64 0)).set (i:=3) (by simp) (.int .i64 0)).set (i:=4) (by simp) (.slice none 0 0)).set (i:=5) (by simp) (.slice iq i ic))
   have hb2:=zx [.string nv,.int .i64 vn,.int .i64 0,.int .i64 0,.slice none 0 0,.slice iq i ic] w1 (S+2) 0 bw2 zn2
   have hr2:=hr1.stay (zy d) (ok':=fun k=>(k < S∨S+2<=k)/\k≠S+2) (w':=zV w1 (S+2) 0 [.string nv,.int .i64 vn,.int .i64 0,.int .i64 0,.slice none 0 0,.slice iq i ic]) (fun k hk hl=>⟨by have hk':k < w.heap.size∨(wx.alloc (.cells #[.string ⟨#[]⟩,.int .i64 0,.int .i64 0,.int .i64 0,.slice none 0 0,.slice none 0 0] 27)).heap.size<=k:=hk;have:=HS.out;omega,zt _ _ _ _ _ (by have hk':k < w.heap.size∨(wx.alloc (.cells #[.string ⟨#[]⟩,.int .i64 0,.int .i64 0,.int .i64 0,.slice none 0 0,.slice none 0 0] 27)).heap.size<=k:=hk;have:=HS.out;omega)⟩)
   go_wp2
   go_meet
   case rel=>exact ⟨S+2,iq,ic,rfl,Nat.le_refl _,hQ2,hr2,hb2⟩
 case rest=>
  obtain ⟨Q,iq,ic,rfl,hQ,hQb,hQr,hbq⟩:=hcut
  have hXc:=hX.blk (hbq.block S (by omega))
  have hRc:=hR.blk (hbq.block (S+1) (by omega))
  have hbw:=hbx.trans (hbq.mono (by omega))
  obtain ⟨wk,hwk⟩:∃ x,x=wc:=⟨_,rfl⟩
  subst hwk
  have hql:Q < wk.heap.size:=hQb.lt
  have hws:=hXc.lt
  have hwr:=hRc.lt
  have x4:=(hXc 4 _ rfl).1
  go_wp2
  go_loopw [16] (fun ix wr=>∃ (j:Nat) (sl2:Value),j<=n/\ix=.int .i64 (j:Int)/\Bn wr Q [.string nv,.int .i64 vn,.int .i64 0,.int .i64 0,sl2,.slice iq i ic]/\OwnB wr wk.heap.size (fun _=>False) 50 4 zb0 sl2 ((c.2.2.1.map dtV).take j)/\Fx Q wk wr) (fun ix _=>n - (RowKit.intOf ix).toNat)
  case atStart=>exact ⟨0,_,Nat.zero_le _,rfl,hQb,zZ _ _ _ _ _ _,Fx.refl _ _⟩
  case round=>
   clear x4
   obtain ⟨j,sl2,hj,rfl,hQB,hRow,hF⟩:=hrel
   obtain ⟨acj,hacj⟩:∃ acj,(c.2.2.1.map dtV).take j=acj:=⟨_,rfl⟩
   have hlj:acj.length=j:=by rw [<- hacj,List.length_take,List.length_map,HN.out];omega
   rw [hacj] at hRow
   have HACJ:Hid ((c.2.2.1.map dtV).take j=acj):=hacj
   clear hacj
   obtain ⟨ra,rc,rfl,hrl,hrm⟩:=hRow.form
   rw [hlj] at hRow hQB hrl
   have hXr:=hXc.fx hF (by omega)
   have hFs:=hF.size
   have hbr:Below w.heap.size w wr:=hF.bel hbw (by omega) zn2
   by_cases hjl:j < n
   ·have hjt:j < c.2.2.1.length:=by rw [HN.out];exact hjl
    obtain ⟨b,off,rfl,hbl,hc⟩:=zcL (show RdK ok w 4 (zbo ok w) c.2.2.1 _ from HV.out) j hjt
    obtain ⟨q,hq⟩:∃ q,c.2.2.1[j]=q:=⟨_,rfl⟩
    rw [hq] at hc
    obtain ⟨sn,sv,sl,sc,hsv,hsz2⟩:∃ sn sv sl sc,zcy q=[.string sn,.int .i64 sv,.int .i64 sl,.int .i64 sc]/\zll (dtV q)=[.string sn,.int .i64 sv,.int .i64 0,.int .i64 0]:=⟨_,_,_,_,rfl,rfl⟩
    rw [hsv] at hc
    have hp:zb0 (fun b=>wr.heap.size<=b) wr (dtV q) [.string sn,.int .i64 sv,.int .i64 0,.int .i64 0]:=hsz2.symm
    have HQ:Hid (c.2.2.1[j]=q):=hq
    clear hsv hq hsz2
    have C0:=(hbr.cell (p:=⟨b,off+j*4+0,none⟩) hbl).trans (hc 0 _ rfl)
    have C1:=(hbr.cell (p:=⟨b,off+j*4+1,none⟩) hbl).trans (hc 1 _ rfl)
    have C2:=(hbr.cell (p:=⟨b,off+j*4+2,none⟩) hbl).trans (hc 2 _ rfl)
    have C3:=(hbr.cell (p:=⟨b,off+j*4+3,none⟩) hbl).trans (hc 3 _ rfl)
    rw [Nat.add_zero] at C0
    clear hc
    have P4:=(hXr 4 _ rfl).1
    obtain ⟨k4,z4⟩:=hQB 4 _ rfl
    have i3:(j:Int) < (n:Int):=by omega
    have i4:(0:Int)<=(j:Int):=by omega
    have hali:=(Below.refl wr.heap.size wr).alloc zn2 (.cells #[.string sn,.int .i64 sv,.int .i64 0,.int .i64 0] 50)
    have hQa:=hQB.on hali
    obtain ⟨m4,o4⟩:=hQa 4 _ rfl
    go_upto_region 5 with fail
    go_region_law (first
     | (refine zH wr.drew rfl _ _ 24 rfl wk.heap.size (fun _=>False) 50 iv (.agg #[.string ⟨#[]⟩,.int .i64 0,.int .i64 0,.int .i64 0]) 4 40 Tryz.underlying24 hiv hiv0 hiv1 hiv2 rfl za4 (.slice ra j rc) acj (dtV q) [.string sn,.int .i64 sv,.int .i64 0,.int .i64 0] wr.heap.size rfl rfl rfl (by simp [Value.oneCell']) hRow hp hFs (fun x hx=>(hRow.lt x hx).2) (fun b hb=>hb.elim) (by omega) (by unfold maxLen;omega) hFs ?_;intro vb wb hOb2 hgb2 hbb hat;have hBb:=hQB.blk (hbb.block _ hql);obtain ⟨m5,n5⟩:=hBb 4 _ rfl;obtain ⟨vba,vbc,hvb,hvbl,hvbm⟩:=hOb2.form;rw [List.length_append,List.length_singleton,hlj] at hvb;subst hvb)
     | fail)
    all_goals (
     have hBc:=hBb.set (i:=4) (by simp) (.slice vba (j+1) vbc)
     have hRc2:=hOb2.set za4 (X:=Q) (i:=4) hql (.slice vba (j+1) vbc)
     have hFc:=((hF.drew).andD hbb zn2).setX (i:=4) (.slice vba (j+1) vbc)
     have hac2:(c.2.2.1.map dtV).take (j+1)=acj++[dtV q]:=by rw [List.take_succ_eq_append_getElem (by rw [List.length_map];exact hjt),HACJ.out,List.getElem_map,HQ.out]
     clear hQa m4 o4 hali hgb2 hbb hat hBb m5 n5 hOb2 k4 z4 P4 C0 C1 C2 C3
     go_wp2
     go_roundw
     case rel=>exact ⟨j+1,_,hjl,by go_num,hBc,by rw [hac2];exact hRc2,hFc⟩
     case measure=>simp [RowKit.intOf];omega)
   ·have i3:¬ (j:Int) < (n:Int):=by omega
    have hjn:j=n:=by omega
    subst hjn
    have hfull:acj=c.2.2.1.map dtV:=by rw [<- HACJ.out];exact List.take_of_length_le (by rw [List.length_map,HN.out];omega)
    have hRr:=hRc.fx hF (by omega)
    have hS2:=HS.out
    have hvars:=(hRow.rd za4).stay za4 (ok':=fun _=>True) (w':=zV wr (S+1) 0 [.string nv,.int .i64 vn,.int .i64 0,.int .i64 0,.slice ra j rc,.slice iq i ic]) (fun b hb hl=>⟨trivial,zt _ _ _ _ _ (by omega)⟩)
    rw [hfull] at hvars
    have hstates:=hQr.stay (zy d) (ok':=fun _=>True) (w':=zV wr (S+1) 0 [.string nv,.int .i64 vn,.int .i64 0,.int .i64 0,.slice ra j rc,.slice iq i ic]) (fun b hb hl=>⟨trivial,(zt _ _ _ _ _ (by omega)).trans (hF.block b hl (fun e=>hb.2 (Option.some.inj e)))⟩)
    have hfin:=HR.out _ _ _ _ _ _ hvars hstates
    have hbz:=zx [.string nv,.int .i64 vn,.int .i64 0,.int .i64 0,.slice ra j rc,.slice iq i ic] wr (S+1) 0 hbr (by omega)
    clear hS2
    have t0:=(hQB 0 _ rfl).1
    obtain ⟨r0,f0⟩:=hRr 0 _ rfl
    have t1:=(hQB 1 _ rfl).1
    obtain ⟨r1,f1⟩:=hRr 1 _ rfl
    have t2:=(hQB 2 _ rfl).1
    obtain ⟨r2,f2⟩:=hRr 2 _ rfl
    have t3:=(hQB 3 _ rfl).1
    obtain ⟨r3,f3⟩:=hRr 3 _ rfl
    have t4:=(hQB 4 _ rfl).1
    obtain ⟨r4,f4⟩:=hRr 4 _ rfl
    have t5:=(hQB 5 _ rfl).1
    obtain ⟨r5,f5⟩:=hRr 5 _ rfl
    have hRz:=(((((hRr.set (i:=0) (by simp) (.string nv)).set (i:=1) (by simp) (.int .i64 vn)).set (i:=2) (by simp) (.int .i64 0)).set (i:=3) (by simp) (.int .i64 0)).set (i:=4) (by simp) (.slice ra j rc)).set (i:=5) (by simp) (.slice iq i ic)
    go_wp2
    exact bodyPost_ret (zlD hRz rfl) rfl ⟨_,rfl,hfin,hbz⟩
end Go.Proofs.YtlkdaldfklaicaaGreatDoor
namespace Go.Proofs.YtlkdaldfklaicaaGreatDoor
end Go.Proofs.YtlkdaldfklaicaaGreatDoor
namespace Go.Proofs.YtlkdaldfklaicaaGreatDoor
open Go.RowKit Go.Lib
set_option linter.unusedSimpArgs false
set_option linter.unusedVariables false
attribute [local go_sem ↓] Go.wp_at_zero Go.wp_at_succ
end Go.Proofs.YtlkdaldfklaicaaGreatDoor
namespace Go.Proofs.YtlkdaldfklaicaaGreatDoor
end Go.Proofs.YtlkdaldfklaicaaGreatDoor
namespace Go.Proofs.YtlkdaldfklaicaaGreatDoor
open Go.RowKit Go.Lib
set_option linter.unusedSimpArgs false
set_option linter.unusedVariables false
attribute [local go_sem ↓] Go.wp_at_zero Go.wp_at_succ
theorem znN (x:Sx):kdB (clX x)=zb9 (exX x):=by
 rw [<- zev]
 show kdB ⟨x.1+1,cln x.1 x.2⟩=zb9 (exV (x.1+1) (cln x.1 x.2))
 rcases Cl.cases (zdG x.1 x.2) with ⟨n,h⟩|⟨q,h⟩|⟨k,p,hk,h,_⟩|⟨q,p1,p2,h,_,_⟩|h
 ·rw [h];rfl
 ·rw [h];rfl
 ·rw [h]
  rcases hk with rfl|rfl<;>rfl
 ·rw [h];rfl
 ·rw [h];rfl
theorem zdA (g:Bool × Sx):(dcG g).1=(g.1 && zb9 (exX g.2))/\((dcG g).1=true->(dcG g).2=clX g.2):=by
 refine ⟨by show (g.1 && kdB (clX g.2))=_;rw [znN],fun h=>?_⟩
 have h2:(g.1 && kdB (clX g.2))=true:=h
 rw [Bool.and_eq_true] at h2
 show (if g.1=true then clX g.2 else noX)=_
 rw [if_pos h2.1]
theorem zmU {x:Sx}(h:kdB (clX x)=false):clX x=⟨x.1+1,zaM⟩:=by
 have h2:kdB (⟨x.1+1,cln x.1 x.2⟩:Sx)=false:=h
 show (⟨x.1+1,cln x.1 x.2⟩:Sx)=_
 rcases Cl.cases (zdG x.1 x.2) with ⟨n,e⟩|⟨q,e⟩|⟨k,p,hk,e,_⟩|⟨q,p1,p2,e,_,_⟩|e
 ·rw [e] at h2
  exact Bool.noConfusion (show true=false from h2)
 ·rw [e] at h2
  exact Bool.noConfusion (show true=false from h2)
 ·rw [e] at h2
  rcases hk with rfl|rfl
  ·exact Bool.noConfusion (show true=false from h2)
  ·exact Bool.noConfusion (show true=false from h2)
 ·rw [e] at h2
  exact Bool.noConfusion (show true=false from h2)
 ·rw [e]
theorem zkH {g:Bool × Sx}(h:(dcG g).1=false):∃ d,(dcG g).2=⟨d+1,zaM⟩:=by
 obtain ⟨b,x⟩:=g
 cases b with
 | false=>exact ⟨0,rfl⟩
 | true=>
  have h2:kdB (clX x)=false:=h
  exact ⟨x.1,zmU h2⟩
theorem zmB (d e:Nat):zbR (⟨d+1,zaM⟩:Sx) ⟨e+1,zaM⟩=true:=by
 show zaL (d+1) (e+1) (mkT 0 0 ⟨#[]⟩ []) (mkT 0 0 ⟨#[]⟩ [])=true
 rw [zca];rfl
theorem zmD {g:Bool × Sx}(h:(dcG g).1=true) (e:Nat):zbR (dcG g).2 (⟨e+1,zaM⟩:Sx)=false/\zbR (⟨e+1,zaM⟩:Sx) (dcG g).2=false:=by
 have h1:=(zdA g).2 h
 have h2:(g.1 && kdB (clX g.2))=true:=h
 rw [Bool.and_eq_true] at h2
 rw [h1]
 obtain ⟨k,n,s,ps,hk⟩:=T.open (cln g.2.1 g.2.2)
 have h3:kdB (⟨g.2.1+1,cln g.2.1 g.2.2⟩:Sx)=true:=h2.2
 rw [hk] at h3
 have h4:(!decide (k=0))=true:=h3
 have h5:¬ k=0:=by simpa using h4
 constructor
 ·show zaL (g.2.1+1) (e+1) (cln g.2.1 g.2.2) (mkT 0 0 ⟨#[]⟩ [])=false
  rw [hk,zca,decide_eq_false h5];rfl
 ·show zaL (e+1) (g.2.1+1) (mkT 0 0 ⟨#[]⟩ []) (cln g.2.1 g.2.2)=false
  rw [hk,zca,decide_eq_false (fun q=>h5 q.symm)];rfl
theorem zk7:noX=(⟨0+1,zaM⟩:Sx):=rfl
theorem zm8 (g g':Bool × Sx):zbR (gX (g.1 && zb9 (exX g.2),clX g.2)) (gX (g'.1 && zb9 (exX g'.2),clX g'.2))=(decide ((dcG g).1=(dcG g').1) && zbR (dcG g).2 (dcG g').2):=by
 obtain ⟨h1,h2⟩:=zdA g
 obtain ⟨h1',h2'⟩:=zdA g'
 unfold gX
 simp only
 rw [<- h1,<- h1']
 cases hb:(dcG g).1 with
 | false=>
  obtain ⟨d,hd⟩:=zkH hb
  cases hb':(dcG g').1 with
  | false=>
   obtain ⟨e,he⟩:=zkH hb'
   rw [hd,he,zmB];rfl
  | true=>
   rw [if_neg (by decide),if_pos rfl,<- h2' hb',zk7,(zmD hb' 0).2];rfl
 | true=>
  cases hb':(dcG g').1 with
  | false=>
   rw [if_pos rfl,if_neg (by decide),<- h2 hb,zk7,(zmD hb 0).1];rfl
  | true=>
   rw [if_pos rfl,if_pos rfl,<- h2 hb,<- h2' hb'];rfl
theorem zlW (o o':OnC):sqO (thO o) (thO o')=dqO (dcO o) (dcO o'):=by
 show (decide (o.1=o'.1) && (decide (o.2.2.1=o'.2.2.1) && (decide (o.2.2.2.2=o'.2.2.2.2) && (zbR (gX (o.2.1.1 && zb9 (exX o.2.1.2),clX o.2.1.2)) (gX (o'.2.1.1 && zb9 (exX o'.2.1.2),clX o'.2.1.2)) && eqL sqS (o.2.2.2.1.map thT) (o'.2.2.2.1.map thT))))) =
  (decide (o.1=o'.1) && (decide ((dcG o.2.1).1=(dcG o'.2.1).1) && (zbR (dcG o.2.1).2 (dcG o'.2.1).2 && (decide (o.2.2.1=o'.2.2.1) && (decide (o.2.2.2.2=o'.2.2.2.2) && eqL sqS (o.2.2.2.1.map thT) (o'.2.2.2.1.map thT))))))
 rw [zm8]
 ac_rfl
theorem zej {α β γ δ γ' δ':Type}(f:γ->δ->Bool) (g:γ'->δ'->Bool) (u:α->γ) (v:β->δ) (u':α->γ') (v':β->δ') (l:List α) (m:List β) (h:∀ a b,f (u a) (v b)=g (u' a) (v' b)):eqL f (l.map u) (m.map v)=eqL g (l.map u') (m.map v'):=by
 rw [zfU (fun a b=>f (u a) (v b)) f u v l m (fun _ _ _ _=>rfl),zfU (fun a b=>f (u a) (v b)) g u' v' l m (fun a _ b _=>(h a b).symm)]
theorem ziu:∀ (d e:Nat) (t:St d) (u:St e),sqT d e (thS d t) (thS e u)=dqT d e (dcS d t) (dcS e u)
 | 0,_,t,_=>Empty.elim t
 | _+1,0,_,u=>Empty.elim u
 | d+1,e+1,t,u=>by
  have h1:eqL (sqT d e) (t.2.map (thS d)) (u.2.map (thS e))=eqL (dqT d e) (t.2.map (dcS d)) (u.2.map (dcS e)):=zej _ _ _ _ _ _ _ _ (fun a b=>ziu d e a b)
  have h2:eqL sqO (t.1.2.2.2.2.map thO) (u.1.2.2.2.2.map thO)=eqL dqO (t.1.2.2.2.2.map dcO) (u.1.2.2.2.2.map dcO):=zej _ _ _ _ _ _ _ _ zlW
  show (sqH (thH t.1) (thH u.1) && eqL (sqT d e) (t.2.map (thS d)) (u.2.map (thS e)))=dqH (dcH t.1) (dcH u.1) (eqL (dqT d e) (t.2.map (dcS d)) (u.2.map (dcS e)))
  rw [h1]
  unfold sqH dqH
  simp only [thH,dcH]
  rw [h2]
  ac_rfl
theorem zmv {d e:Nat}(a:ChD d) (b:ChD e):sqC d e (thC d a) (thC e b)=dqC d e (dcC d a) (dcC e b):=by
 have h1:eqL (sqT d e) (a.2.2.2.map (thS d)) (b.2.2.2.map (thS e))=eqL (dqT d e) (a.2.2.2.map (dcS d)) (b.2.2.2.map (dcS e)):=zej _ _ _ _ _ _ _ _ (fun x y=>ziu d e x y)
 unfold sqC dqC
 simp only [thC,dcC]
 rw [h1]
 ac_rfl
def nmO (o:OnC):OnC:=(o.1,(o.2.1.1,gX o.2.1),o.2.2.1,o.2.2.2.1,o.2.2.2.2)
def nmH (h:HdC):HdC:=(h.1,h.2.1,h.2.2.1,h.2.2.2.1,h.2.2.2.2.map nmO)
def nmS:(d:Nat)->St d->St d
 | 0,t=>Empty.elim t
 | d+1,t=>show HdC × List (St d) from (nmH t.1,t.2.map (nmS d))
def zje (d:Nat) (c:ChG d):ChG d:=(c.1,c.2.1,c.2.2.1,c.2.2.2.map (nmS d))
theorem znO (g:Bool × Sx):gdV (g.1,gX g)=gdV g:=by
 obtain ⟨b,x⟩:=g
 cases b<;>rfl
theorem RdK.turn {α β:Type}{ok:Nat->Prop}{w:World}{k:Nat}{R:α->List Value->Prop}{R':β->List Value->Prop}{f:α->β}{l:List α}{v:Value}(h:RdK ok w k R l v) (hR:∀ x cs,R x cs->R' (f x) cs):RdK ok w k R' (l.map f) v:=by
 obtain ⟨a,cap,rfl,h1,h2,h3⟩:=h
 refine ⟨a,cap,by rw [List.length_map],by rw [List.length_map];exact h1,h2,fun j hj=>?_⟩
 have hj':j < l.length:=by rw [List.length_map] at hj;exact hj
 obtain ⟨b,off,cs,ha,hb0,hb,hl,hr,hc⟩:=h3 j hj'
 exact ⟨b,off,cs,ha,hb0,hb,hl,by rw [List.getElem_map];exact hR _ _ hr,hc⟩
theorem zkG {ok:Nat->Prop}{w:World}:∀ (d:Nat) (t:St d) (cs:List Value),rSt d ok w t cs->rSt d ok w (nmS d t) cs
 | 0,t,_,_=>Empty.elim t
 | d+1,t,cs,⟨so,si,h1,h2,h3⟩=>⟨so,si,h1,h2.turn (fun o cs ho=>by
   obtain ⟨sl,q1,q2⟩:=ho
   refine ⟨sl,?_,q2⟩
   rw [q1]
   show [sV o.1,gdV o.2.1,sV o.2.2.1,sl,.int .i64 o.2.2.2.2.1,.int .i64 o.2.2.2.2.2]=[sV o.1,gdV (o.2.1.1,gX o.2.1),sV o.2.2.1,sl,.int .i64 o.2.2.2.2.1,.int .i64 o.2.2.2.2.2]
   rw [znO]),h3.turn (zkG d)⟩
theorem zmG {ok:Nat->Prop}{w:World}{d:Nat}{c:ChG d}{v:Value}(h:RdC ok w d c v):RdC ok w d (zje d c) v:=by
 obtain ⟨sv,ss,h1,h2,h3⟩:=h
 exact ⟨sv,ss,h1,h2,h3.turn (zkG d)⟩
theorem zni {o:OnC}(h:OnS o):OkO (nmO (stO (thO o))):=by
 refine ⟨?_,fun hf=>?_,fun ht=>?_,fun x hx=>?_,?_⟩
 ·show ClX (gX (o.2.1.1 && zb9 (exX o.2.1.2),clX o.2.1.2))
  unfold gX
  split
  ·exact zdG _ _
  ·exact Or.inr (Or.inr (Or.inr (Or.inr ⟨rfl,rfl,rfl,rfl⟩)))
 ·show gX (o.2.1.1 && zb9 (exX o.2.1.2),clX o.2.1.2)=noX
  have hf2:(o.2.1.1 && zb9 (exX o.2.1.2))=false:=hf
  rw [hf2];rfl
 ·have ht2:(o.2.1.1 && zb9 (exX o.2.1.2))=true:=ht
  show ∃ u y,exX (gX (o.2.1.1 && zb9 (exX o.2.1.2),clX o.2.1.2))=.iface u y
  rw [ht2]
  show ∃ u y,exX (clX o.2.1.2)=.iface u y
  rw [zev]
  rw [Bool.and_eq_true] at ht2
  have h3:=ht2.2
  revert h3
  cases exX o.2.1.2<;>intro h3<;>first|exact ⟨_,_,rfl⟩|exact Bool.noConfusion (show false=true from h3)
 ·obtain ⟨s',hs',rfl⟩:=List.mem_map.1 (show x∈o.2.2.2.1.map thT from hx)
  exact zdG _ _
 ·show (o.2.2.2.1.map thT).length<=3001
  rw [List.length_map];have:=h.2.2.2.1;omega
theorem zdD {d:Nat}{l:List (St d)}(h:zah d l<=400):l.length<=400:=by
 match d,l,h with
 | 0,[],_=>simp
 | 0,x :: _,_=>exact Empty.elim x
 | d+1,l,h=>have:=zcK l;omega
theorem zfJ:∀ (d:Nat) (t:St d),SmS d t->(∀ l:List (St d),t∈l->zah d l<=400->OkS d (nmS d (stS d (thS d t)))/\LnT d (dcS d t))
 | 0,t,_=>Empty.elim t
 | d+1,t,h=>fun l hl ht=>by
  obtain ⟨⟨h1,h2,h3,h4,h5⟩,h6⟩:=h
  have ht2:zah d t.2<=400:=zn5 (zd5 hl) ht
  refine ⟨⟨fun o ho=>?_,?_,?_,fun x hx=>?_⟩,?_,?_,fun x hx=>?_⟩
  ·obtain ⟨o1,ho1,rfl⟩:=List.mem_map.1 (show o∈((t.1.2.2.2.2.map thO).map stO).map nmO from ho)
   obtain ⟨o2,ho2,rfl⟩:=List.mem_map.1 ho1
   obtain ⟨o3,ho3,rfl⟩:=List.mem_map.1 ho2
   exact zni (h5 o3 ho3)
  ·show (((t.1.2.2.2.2.map thO).map stO).map nmO).length<=3001
   simp only [List.length_map];omega
  ·show (((t.2.map (thS d)).map (stS d)).map (nmS d)).length<=3001
   simp only [List.length_map];have:=zdD ht2;omega
  ·obtain ⟨x1,hx1,rfl⟩:=List.mem_map.1 (show x∈((t.2.map (thS d)).map (stS d)).map (nmS d) from hx)
   obtain ⟨x2,hx2,rfl⟩:=List.mem_map.1 hx1
   obtain ⟨x3,hx3,rfl⟩:=List.mem_map.1 hx2
   exact (zfJ d x3 (h6 x3 hx3) t.2 hx3 ht2).1
  ·show (t.1.2.2.2.2.map dcO).length<=400
   rw [List.length_map];exact h4
  ·show (t.2.map (dcS d)).length<=400
   rw [List.length_map];exact zdD ht2
  ·obtain ⟨x',hx',rfl⟩:=List.mem_map.1 (show x∈t.2.map (dcS d) from hx)
   exact (zfJ d x' (h6 x' hx') t.2 hx' ht2).2
theorem zb3 {α β γ:Type}(f:β->γ->Bool) (u:α->β) (v:α->γ):∀ (l:List α),(∀ a∈l,f (u a) (v a)=true)->eqL f (l.map u) (l.map v)=true
 | [],_=>rfl
 | a :: l,h=>by
  show (f (u a) (v a) && eqL f (l.map u) (l.map v))=true
  rw [h a (by simp),zb3 f u v l (fun x hx=>h x (by simp [hx]))];rfl
theorem zdE (x:Sx):zbR x x=true:=zfr x.1 x.2
theorem zfe (l:List (List UInt8 × Sx)):eqL sqS l l=true:=by
 have:=zb3 sqS id id l (fun s _=>by show (decide (s.1=s.1) && zbR s.2 s.2)=true;rw [zdE,decide_eq_true rfl];rfl)
 simpa using this
theorem zkL (o:OnC):dqO (nmO (stO (thO o))) (dtO (dcO o))=true:=by
 obtain ⟨h1,h2⟩:=zdA o.2.1
 have hg:zbR (gX (o.2.1.1 && zb9 (exX o.2.1.2),clX o.2.1.2)) (dcG o.2.1).2=true:=by
  rw [<- h1]
  cases hb:(dcG o.2.1).1 with
  | false=>
   obtain ⟨d,hd⟩:=zkH hb
   rw [hd]
   exact zmB 0 d
  | true=>
   rw [h2 hb]
   exact zdE _
 show (decide (o.1=o.1) && (decide ((o.2.1.1 && zb9 (exX o.2.1.2))=(dcG o.2.1).1) && (zbR (gX (o.2.1.1 && zb9 (exX o.2.1.2),clX o.2.1.2)) (dcG o.2.1).2 && (decide (o.2.2.1=o.2.2.1) && (decide (((0,0):Pl)=(0,0)) && eqL sqS (o.2.2.2.1.map thT) (o.2.2.2.1.map thT))))))=true
 rw [hg,zfe,h1]
 simp
theorem zf5:∀ (d:Nat) (t:St d),dqT d d (nmS d (stS d (thS d t))) (dtS d (dcS d t))=true
 | 0,t=>Empty.elim t
 | d+1,t=>by
  show dqH (nmH (stH (thH t.1))) (dtH (dcH t.1)) (eqL (dqT d d) (((t.2.map (thS d)).map (stS d)).map (nmS d)) ((t.2.map (dcS d)).map (dtS d)))=true
  have h1:eqL (dqT d d) (((t.2.map (thS d)).map (stS d)).map (nmS d)) ((t.2.map (dcS d)).map (dtS d))=true:=by
   rw [List.map_map,List.map_map,List.map_map]
   exact zb3 _ _ _ _ (fun a _=>zf5 d a)
  have h2:eqL dqO (((t.1.2.2.2.2.map thO).map stO).map nmO) ((t.1.2.2.2.2.map dcO).map dtO)=true:=by
   rw [List.map_map,List.map_map,List.map_map]
   exact zb3 _ _ _ _ (fun a _=>zkL a)
  rw [h1]
  unfold dqH
  show (decide (t.1.1.1=t.1.1.1) && (decide (((0,0):Pl)=(0,0)) && (decide (t.1.2.1.1=t.1.2.1.1) && (decide (t.1.2.1.2=t.1.2.1.2) && (decide (t.1.2.2.1.1=t.1.2.2.1.1) && (decide (t.1.2.2.1.2=t.1.2.2.1.2) && (decide (t.1.2.2.2.1.1=t.1.2.2.2.1.1) && (decide (t.1.2.2.2.1.2=t.1.2.2.2.1.2) && (true && eqL dqO (((t.1.2.2.2.2.map thO).map stO).map nmO) ((t.1.2.2.2.2.map dcO).map dtO))))))))))=true
  rw [h2]
  simp
theorem zku {d:Nat}(a:ChD d):dqC d d (zje d (stG d (thC d a))) (dtC d (dcC d a))=true:=by
 have h1:eqL (dqT d d) (((a.2.2.2.map (thS d)).map (stS d)).map (nmS d)) ((a.2.2.2.map (dcS d)).map (dtS d))=true:=by
  rw [List.map_map,List.map_map,List.map_map]
  exact zb3 _ _ _ _ (fun x _=>zf5 d x)
 have h2:eqL sqV (a.2.2.1.map spV) (a.2.2.1.map dtV)=true:=zb3 _ _ _ _ (fun x _=>by
  show decide (spV x=dtV x)=true
  exact decide_eq_true rfl)
 show (decide (a.1.1=a.1.1) && (decide (a.2.1=a.2.1) && (decide (((0,0):Pl)=(0,0)) && (eqL (dqT d d) (((a.2.2.2.map (thS d)).map (stS d)).map (nmS d)) ((a.2.2.2.map (dcS d)).map (dtS d)) && eqL sqV (a.2.2.1.map spV) (a.2.2.1.map dtV)))))=true
 rw [h1,h2]
 simp
theorem zk1 {d:Nat}{a:ChD d}(h:zms d a):(∀ t∈(zje d (stG d (thC d a))).2.2.2,OkS d t)/\(zje d (stG d (thC d a))).2.2.2.length<=3001/\(zje d (stG d (thC d a))).2.2.1.length<=3001/\(∀ t∈(dcC d a).2.2.2,LnT d t)/\(dcC d a).2.2.2.length<=400/\(dcC d a).2.2.1.length<=3001:=by
 obtain ⟨h1,h2,h3,h4⟩:=h
 have hl:=zdD h3
 refine ⟨fun t ht=>?_,?_,?_,fun t ht=>?_,?_,?_⟩
 ·obtain ⟨x1,hx1,rfl⟩:=List.mem_map.1 (show t∈((a.2.2.2.map (thS d)).map (stS d)).map (nmS d) from ht)
  obtain ⟨x2,hx2,rfl⟩:=List.mem_map.1 hx1
  obtain ⟨x3,hx3,rfl⟩:=List.mem_map.1 hx2
  exact (zfJ d x3 (h4 x3 hx3) a.2.2.2 hx3 h3).1
 ·show (((a.2.2.2.map (thS d)).map (stS d)).map (nmS d)).length<=3001
  simp only [List.length_map];omega
 ·show (a.2.2.1.map spV).length<=3001
  rw [List.length_map];omega
 ·obtain ⟨x',hx',rfl⟩:=List.mem_map.1 (show t∈a.2.2.2.map (dcS d) from ht)
  exact (zfJ d x' (h4 x' hx') a.2.2.2 hx' h3).2
 ·show (a.2.2.2.map (dcS d)).length<=400
  rw [List.length_map];exact hl
 ·show a.2.2.1.length<=3001
  omega
def znJ:Prop:=∀ (d e:Nat) (t:T d) (u:T e) (w:World),Cl d t->Cl e u->cnt d t<=2000->cnt e u<=2000->
 Calls Tryz.prog 55 #[exV d t,exV e u] w fun r w'=>r=.returned (.bool (zaL d e t u))/\Below w.heap.size w w'
theorem zi7 {d e:Nat}{t:T d}{u:T e}(w:World) (hc:Cl d t) (hc':Cl e u) (hn:cnt d t<=2000) (hn':cnt e u<=2000):zeW w (exV d t) (exV e u) (zaL d e t u):=by
 refine ⟨[⟨d,t⟩],[⟨e,u⟩],?_,?_,rfl,?_,?_,?_,?_,?_⟩
 ·have:=World.ownsRow_lit (e:=87) (base:=w.heap.size) (size:=1) w #[exV d t] 1 zn2 (by simp [maxLen]) (by simp)
  have h2:=World.ownsRow.alloc this (.cells #[exV e u] 87)
  unfold Stk
  simpa [exS] using h2
 ·have:=World.ownsRow_lit (e:=87) (base:=w.heap.size) (size:=1) (w.alloc (.cells #[exV d t] 87)) #[exV e u] 1 (by simp) (by simp [maxLen]) (by simp)
  unfold Stk
  simpa [exS] using this
 ·intro z hz;simp at hz;subst hz;exact hc
 ·intro z hz;simp at hz;subst hz;exact hc'
 ·show (zaL d e t u && true)=zaL d e t u;simp
 ·show cnt d t+0<=2000;omega
 ·show cnt e u+0<=2000;omega
