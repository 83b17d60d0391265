import Derived.Test.YtlkdaldfklaicaaGreatDoorWvc17
import Derived.Test.YtlkdaldfklaicaaGreatDoorWvc15
import Derived.Test.YtlkdaldfklaicaaGreatDoorWvc10
import Derived.Test.YtlkdaldfklaicaaGreatDoorRows
import Derived.Test.YtlkdaldfklaicaaGreatDoorWvc02
import Derived.Test.YtlkdaldfklaicaaGreatDoorWvc04
import Derived.Deep.LoopGhost
import Derived.Test.YtlkdaldfklaicaaGreatDoorWvc05
import Derived.Test.YtlkdaldfklaicaaGreatDoorWvc03
import Derived.Test.YtlkdaldfklaicaaGreatDoorWvc07
import Derived.Deep.RegionHeldLaw
import Derived.Lib.AppendIntMem
import Derived.Lib.SlicesCompact
import Derived.Sort.Walk0
import Derived.Test.YtlkdaldfklaicaaGreatDoorWvc08
import Derived.Test.YtlkdaldfklaicaaGreatDoorWvc01
import Derived.Sort.OwnSorted
import Derived.Lib.OwnBridge
import Derived.Test.YtlkdaldfklaicaaGreatDoorWvc09
set_option maxRecDepth 100000
set_option maxHeartbeats 32000000
namespace Go.Proofs.YtlkdaldfklaicaaGreatDoor
open Go.RowKit Go.Lib
set_option linter.unusedSimpArgs false
set_option linter.unusedVariables false
attribute [local go_sem ↓] Go.wp_at_zero Go.wp_at_succ
theorem zjk {w4:World}{R:Nat}{a b c d e f:Value}{tmps:Array Value}(hR:Bn w4 R [a,b,c,d,e,f]) (ht:tmps.getD 2 undef=.pointer (some ⟨R,0,none⟩)):(results Tryz.f6 tmps).run Tryz.prog w4=.ok (.agg #[a,b,c,d,e,f]) w4:=by
 have ht':tmps[2]?.getD undef=.pointer (some ⟨R,0,none⟩):=by simpa using ht
 have c0:=(hR 0 _ rfl).1
 have c1:=(hR 1 _ rfl).1
 have c2:=(hR 2 _ rfl).1
 have c3:=(hR 3 _ rfl).1
 have c4:=(hR 4 _ rfl).1
 have c5:=(hR 5 _ rfl).1
 simp [results,Tryz.results6,go_sem,ht',c0,c1,c2,c3,c4,c5]
theorem zfa {ok:Nat->Prop}{w:World}{d:Nat}{c:ChD d}{v:Value}(h:RdD ok w d c v) (hok:∀ t∈c.2.2.2,SmS d t) (hl1:zah d c.2.2.2<=400) (hl2:c.2.2.1.length<=3001) :
  Calls Tryz.prog 6 #[v] w fun e w'=>∃ u,e=.returned u/\RdC (fun b=>w.heap.size<=b) w' d (thC d c) u/\Below w.heap.size w w':=by
 obtain ⟨iv,hiv,hiv0,hiv1,hiv2⟩:=info_parts Tryz.infoVar
 obtain ⟨sv,ss,rfl,hv,hs⟩:=h
 obtain ⟨a,cap,rfl,hlc,hcm⟩:=hv.form
 obtain ⟨p4,p6,rfl,_⟩:=hs.form
 unfold maxLen at hcm
 have HV:=zm hv
 have hcall:=fun w1 (b1:Below w.heap.size w w1)=>zli d ok w1 c.2.2.2 _ (hs.stay (zy d) (fun k hk hl=>⟨hk,b1.block k hl⟩)) hok hl1
 obtain ⟨nv,hnv⟩:∃ nv,sD c.1.1=.string nv:=⟨_,rfl⟩
 obtain ⟨n,hn⟩:∃ n,c.2.2.1.length=n:=⟨_,rfl⟩
 obtain ⟨i,hi⟩:∃ n,c.2.2.2.length=n:=⟨_,rfl⟩
 obtain ⟨vn,hvn⟩:∃ x,c.2.1=x:=⟨_,rfl⟩
 obtain ⟨ln,hln⟩:∃ x,c.1.2.1=x:=⟨_,rfl⟩
 obtain ⟨co,hco⟩:∃ x,c.1.2.2=x:=⟨_,rfl⟩
 rw [hnv,hvn,hln,hco,hi,hn]
 rw [hi] at hcall
 rw [hn] at hlc hl2
 have HN:Hid (c.2.2.1.length=n):=hn
 have HR:Hid (∀ (ok':Nat->Prop) (w':World) (a':Option Addr) (c':Nat) (b':Option Addr) (e':Nat),RdK ok' w' 4 (zbo ok' w') c.2.2.1 (.slice a' n c')->RdK ok' w' 11 (rSt d ok' w') (c.2.2.2.map (thS d)) (.slice b' i e')->RdC ok' w' d (thC d c) (.agg #[.string nv,.int .i64 vn,.int .i64 ln,.int .i64 co,.slice a' n c',.slice b' i e'])):=by
  intro ok' w' a' c' b' e' h1 h2
  refine ⟨_,_,?_,h1,h2⟩
  show _=Value.agg #[sV c.1.1,.int .i64 c.2.1,.int .i64 c.1.2.1,.int .i64 c.1.2.2,_,_]
  rw [show sV c.1.1=sD c.1.1 from rfl,hnv,hvn,hln,hco]
 have hcall2:∀ w1,Below w.heap.size w w1->Calls Tryz.prog 15 #[.slice p4 i p6] w1 fun e w'=>∃ iq ic,e=.returned (.slice iq i ic)/\RdK (fun b=>w1.heap.size<=b) w' 11 (rSt d (fun b=>w1.heap.size<=b) w') (c.2.2.2.map (thS d)) (.slice iq i ic)/\Below w1.heap.size w1 w':=fun w1 b1=>(hcall w1 b1).mono (fun e w' hh=>by
  obtain ⟨u,h1,h2,h3⟩:=hh
  obtain ⟨iq,ic,rfl,_⟩:=h2.form
  rw [List.length_map,hi] at h1 h2
  exact ⟨iq,ic,h1,h2,h3⟩)
 clear hcall hv hs hok hl1 hn hi hnv hvn hln hco
 have hal:Below w.heap.size w ((w.alloc (.cells #[.string nv,.int .i64 vn,.int .i64 ln,.int .i64 co,.slice a n cap,.slice p4 i p6] 27)).alloc (.cells #[.string ⟨#[]⟩,.int .i64 0,.int .i64 0,.int .i64 0,.slice none 0 0,.slice none 0 0] 33)):=((Below.refl w.heap.size w).alloc zn2 _).alloc (by simp) _
 have hX:Bn ((w.alloc (.cells #[.string nv,.int .i64 vn,.int .i64 ln,.int .i64 co,.slice a n cap,.slice p4 i p6] 27)).alloc (.cells #[.string ⟨#[]⟩,.int .i64 0,.int .i64 0,.int .i64 0,.slice none 0 0,.slice none 0 0] 33)) w.heap.size [.string nv,.int .i64 vn,.int .i64 ln,.int .i64 co,.slice a n cap,.slice p4 i p6]:=(Bn.new w [.string nv,.int .i64 vn,.int .i64 ln,.int .i64 co,.slice a n cap,.slice p4 i p6] 27 _ rfl).on (zn3.alloc zn2 _)
 have hR:Bn ((w.alloc (.cells #[.string nv,.int .i64 vn,.int .i64 ln,.int .i64 co,.slice a n cap,.slice p4 i p6] 27)).alloc (.cells #[.string ⟨#[]⟩,.int .i64 0,.int .i64 0,.int .i64 0,.slice none 0 0,.slice none 0 0] 33)) (w.heap.size+1) [.string ⟨#[]⟩,.int .i64 0,.int .i64 0,.int .i64 0,.slice none 0 0,.slice none 0 0]:=Bn.new (w.alloc (.cells #[.string nv,.int .i64 vn,.int .i64 ln,.int .i64 co,.slice a n cap,.slice p4 i p6] 27)) [.string ⟨#[]⟩,.int .i64 0,.int .i64 0,.int .i64 0,.slice none 0 0,.slice none 0 0] 33 _ (by simp)
 have hsz:((w.alloc (.cells #[.string nv,.int .i64 vn,.int .i64 ln,.int .i64 co,.slice a n cap,.slice p4 i p6] 27)).alloc (.cells #[.string ⟨#[]⟩,.int .i64 0,.int .i64 0,.int .i64 0,.slice none 0 0,.slice none 0 0] 33)).heap.size=w.heap.size+2:=by simp
 go_enter Tryz.func6,Tryz.ntmps6
 go_upto_region 1 with fail
 generalize ((w.alloc (.cells #[.string nv,.int .i64 vn,.int .i64 ln,.int .i64 co,.slice a n cap,.slice p4 i p6] 27)).alloc (.cells #[.string ⟨#[]⟩,.int .i64 0,.int .i64 0,.int .i64 0,.slice none 0 0,.slice none 0 0] 33))=wx at *
 obtain ⟨S,hS⟩:∃ S,w.heap.size=S:=⟨_,rfl⟩
 rw [hS] at hX hR hsz ⊢
 have HS:Hid (w.heap.size=S):=hS
 have hbx:Below w.heap.size w wx:=hal
 have hSw:w.heap.size<=S:=by omega
 clear hS hal
 go_cut [3] (fun u3 wc=>∃ Q iq ic,u3=.pointer (some ⟨Q,0,none⟩)/\S+2<=Q/\Bn wc Q [.string nv,.int .i64 vn,.int .i64 ln,.int .i64 co,.slice none 0 0,.slice iq i ic]/\RdK (fun k=>S+2<=k/\k≠Q) wc 11 (rSt d (fun k=>S+2<=k/\k≠Q) wc) (c.2.2.2.map (thS d)) (.slice iq i ic)/\Below (S+2) wx wc)
 case first=>
  have hbz:Below w.heap.size w (wx.alloc (.cells #[.string ⟨#[]⟩,.int .i64 0,.int .i64 0,.int .i64 0,.slice none 0 0,.slice none 0 0] 33)):=hbx.alloc hbx.size _
  have hZ0:Bn (wx.alloc (.cells #[.string ⟨#[]⟩,.int .i64 0,.int .i64 0,.int .i64 0,.slice none 0 0,.slice none 0 0] 33)) (S+2) [.string ⟨#[]⟩,.int .i64 0,.int .i64 0,.int .i64 0,.slice none 0 0,.slice none 0 0]:=Bn.new wx [.string ⟨#[]⟩,.int .i64 0,.int .i64 0,.int .i64 0,.slice none 0 0,.slice none 0 0] 33 _ hsz.symm
  have hzx:(wx.alloc (.cells #[.string ⟨#[]⟩,.int .i64 0,.int .i64 0,.int .i64 0,.slice none 0 0,.slice none 0 0] 33)).heap.size=S+3:=by simp;omega
  have n1:S≠S+2:=by omega
  have X0:=(hX 0 _ rfl).1
  have X1:=(hX 1 _ rfl).1
  have X2:=(hX 2 _ rfl).1
  have X3:=(hX 3 _ rfl).1
  have X5:=(hX 5 _ rfl).1
  clear HV HR hR
  go_region_held_law (fun w'=>w'.cell? ⟨S,0,none⟩=some (.string nv)/\w'.cell? ⟨S,1,none⟩=some (.int .i64 vn)/\w'.cell? ⟨S,2,none⟩=some (.int .i64 ln)/\w'.cell? ⟨S,3,none⟩=some (.int .i64 co)/\w'.cell? ⟨S,5,none⟩=some (.slice p4 i p6))
   (((refine ⟨?_,?_,?_,?_,?_⟩<;>(repeat (with_reducible first|exact X0|exact X1|exact X2|exact X3|exact X5|exact Y0|exact Y1|exact Y2|exact Y3|exact Y5|refine zj ?_|refine zh ?_|refine za (zg n1) ?_|refine za (zg n2) ?_))<;>done)))
   (first
    | (go_at_call 15;(with_reducible refine (hcall2 _ hbx.drew).mono ?_);rintro e w1 ⟨iq,ic,rfl,hr1,b1⟩;have bw:Below wx.heap.size wx w1:=((Below.refl _ wx).drew).trans b1;have n2:S≠w1.heap.size:=(by have:=bw.size;omega);have kc:∀ p u,wx.cell? p=some u->w1.cell? p=some u:=fun p u hp=>(by rw [bw.cell (World.block_lt_of_cell? wx _ hp)];exact hp);have Y0:=kc _ _ X0;have Y1:=kc _ _ X1;have Y2:=kc _ _ X2;have Y3:=kc _ _ X3;have Y5:=kc _ _ X5)
    | (go_at_call 15;(with_reducible refine (hcall2 _ hbz.drew).mono ?_);rintro e w1 ⟨iq,ic,rfl,hr1,b1⟩;have bz:Below (wx.alloc (.cells #[.string ⟨#[]⟩,.int .i64 0,.int .i64 0,.int .i64 0,.slice none 0 0,.slice none 0 0] 33)).heap.size (wx.alloc (.cells #[.string ⟨#[]⟩,.int .i64 0,.int .i64 0,.int .i64 0,.slice none 0 0,.slice none 0 0] 33)) w1:=((Below.refl _ (wx.alloc (.cells #[.string ⟨#[]⟩,.int .i64 0,.int .i64 0,.int .i64 0,.slice none 0 0,.slice none 0 0] 33))).drew).trans b1;have bw:Below wx.heap.size wx w1:=((Below.refl wx.heap.size wx).alloc zn2 (.cells #[.string ⟨#[]⟩,.int .i64 0,.int .i64 0,.int .i64 0,.slice none 0 0,.slice none 0 0] 33)).trans (bz.mono (by rw [hsz,hzx];omega));have kc:∀ p u,wx.cell? p=some u->w1.cell? p=some u:=fun p u hp=>(by rw [bw.cell (World.block_lt_of_cell? wx _ hp)];exact hp);have Y0:=kc _ _ X0;have Y1:=kc _ _ X1;have Y2:=kc _ _ X2;have Y3:=kc _ _ X3;have Y5:=kc _ _ X5;have hZ:=hZ0.on bz;obtain ⟨z0,f0⟩:=hZ 0 _ rfl;obtain ⟨z1,f1⟩:=hZ 1 _ rfl;obtain ⟨z2,f2⟩:=hZ 2 _ rfl;obtain ⟨z3,f3⟩:=hZ 3 _ rfl;obtain ⟨z4,f4⟩:=hZ 4 _ rfl;obtain ⟨z5,f5⟩:=hZ 5 _ rfl)
    | fail)
  ·have bw2:Below (S+2) wx w1:=by rw [<- hsz];exact bw
   have hs1:S+2<=w1.heap.size:=by have:=bw.size;omega
   have hr2:=hr1.stay (zp d) (ok':=fun k=>S+2<=k/\k≠w1.heap.size) (w':=w1.alloc (.cells #[.string nv,.int .i64 vn,.int .i64 ln,.int .i64 co,.slice none 0 0,.slice iq i ic] 33)) (fun k hk hl=>⟨⟨by have hk':wx.heap.size<=k:=hk;omega,by omega⟩,((Below.refl w1.heap.size w1).alloc zn2 _).block k hl⟩)
   go_wp2
   go_meet
   case rel=>exact ⟨w1.heap.size,iq,ic,rfl,hs1,Bn.new w1 [.string nv,.int .i64 vn,.int .i64 ln,.int .i64 co,.slice none 0 0,.slice iq i ic] 33 _ rfl,hr2,bw2.alloc hs1 _⟩
  ·have bw2:Below (S+2) wx w1:=by rw [<- hsz];exact bw
   have hQ2:=((((((hZ.set (i:=0) (by simp) (.string nv)).set (i:=1) (by simp) (.int .i64 vn)).set (i:=2) (by simp) (.int .i64 ln)).set (i:=3) (by simp) (.int .i64 co)).set (i:=4) (by simp) (.slice none 0 0)).set (i:=5) (by simp) (.slice iq i ic))
   have hb2:=zx [.string nv,.int .i64 vn,.int .i64 ln,.int .i64 co,.slice none 0 0,.slice iq i ic] w1 (S+2) 0 bw2 zn2
   have hr2:=hr1.stay (zp d) (ok':=fun k=>S+2<=k/\k≠S+2) (w':=zV w1 (S+2) 0 [.string nv,.int .i64 vn,.int .i64 ln,.int .i64 co,.slice none 0 0,.slice iq i ic]) (fun k hk hl=>⟨by have hk':(wx.alloc (.cells #[.string ⟨#[]⟩,.int .i64 0,.int .i64 0,.int .i64 0,.slice none 0 0,.slice none 0 0] 33)).heap.size<=k:=hk;omega,zt _ _ _ _ _ (by have hk':(wx.alloc (.cells #[.string ⟨#[]⟩,.int .i64 0,.int .i64 0,.int .i64 0,.slice none 0 0,.slice none 0 0] 33)).heap.size<=k:=hk;omega)⟩)
   go_wp2
   go_meet
   case rel=>exact ⟨S+2,iq,ic,rfl,Nat.le_refl _,hQ2,hr2,hb2⟩
 case rest=>
  obtain ⟨Q,iq,ic,rfl,hQ,hQb,hQr,hbq⟩:=hcut
  have hXc:=hX.blk (hbq.block S (by omega))
  have hRc:=hR.blk (hbq.block (S+1) (by omega))
  have hbw:=hbx.trans (hbq.mono (by omega))
  obtain ⟨wk,hwk⟩:∃ x,x=wc:=⟨_,rfl⟩
  subst hwk
  have hql:Q < wk.heap.size:=hQb.lt
  have hws:=hXc.lt
  have hwr:=hRc.lt
  have x4:=(hXc 4 _ rfl).1
  go_wp2
  go_loopw [18] (fun ix wr=>∃ (j:Nat) (sl2:Value),j<=n/\ix=.int .i64 (j:Int)/\Bn wr Q [.string nv,.int .i64 vn,.int .i64 ln,.int .i64 co,sl2,.slice iq i ic]/\OwnB wr wk.heap.size (fun _=>False) 49 4 zbo sl2 (c.2.2.1.take j)/\Fx Q wk wr) (fun ix _=>n - (RowKit.intOf ix).toNat)
  case atStart=>exact ⟨0,_,Nat.zero_le _,rfl,hQb,zZ _ _ _ _ _ _,Fx.refl _ _⟩
  case round=>
   clear x4
   obtain ⟨j,sl2,hj,rfl,hQB,hRow,hF⟩:=hrel
   obtain ⟨acj,hacj⟩:∃ acj,c.2.2.1.take j=acj:=⟨_,rfl⟩
   have hlj:acj.length=j:=by rw [<- hacj,List.length_take,HN.out];omega
   rw [hacj] at hRow
   have HACJ:Hid (c.2.2.1.take j=acj):=hacj
   clear hacj
   obtain ⟨ra,rc,rfl,hrl,hrm⟩:=hRow.form
   rw [hlj] at hRow hQB hrl
   have hXr:=hXc.fx hF (by omega)
   have hFs:=hF.size
   have hbr:Below w.heap.size w wr:=hF.bel hbw (by omega) zn2
   by_cases hjl:j < n
   ·have hjt:j < c.2.2.1.length:=by rw [HN.out];exact hjl
    obtain ⟨b,off,rfl,hbl,hc⟩:=zcL (show RdK ok w 4 (zbo ok w) c.2.2.1 _ from HV.out) j hjt
    obtain ⟨q,hq⟩:∃ q,c.2.2.1[j]=q:=⟨_,rfl⟩
    rw [hq] at hc
    obtain ⟨sn,sv,sl,sc,hsv⟩:∃ sn sv sl sc,zcy q=[.string sn,.int .i64 sv,.int .i64 sl,.int .i64 sc]:=⟨_,_,_,_,rfl⟩
    rw [hsv] at hc
    have hp:zbo (fun b=>wr.heap.size<=b) wr q [.string sn,.int .i64 sv,.int .i64 sl,.int .i64 sc]:=hsv.symm
    have HQ:Hid (c.2.2.1[j]=q):=hq
    clear hsv hq
    have C0:=(hbr.cell (p:=⟨b,off+j*4+0,none⟩) hbl).trans (hc 0 _ rfl)
    have C1:=(hbr.cell (p:=⟨b,off+j*4+1,none⟩) hbl).trans (hc 1 _ rfl)
    have C2:=(hbr.cell (p:=⟨b,off+j*4+2,none⟩) hbl).trans (hc 2 _ rfl)
    have C3:=(hbr.cell (p:=⟨b,off+j*4+3,none⟩) hbl).trans (hc 3 _ rfl)
    rw [Nat.add_zero] at C0
    clear hc
    have P4:=(hXr 4 _ rfl).1
    obtain ⟨k4,z4⟩:=hQB 4 _ rfl
    have i3:(j:Int) < (n:Int):=by omega
    have i4:(0:Int)<=(j:Int):=by omega
    have hali:=(Below.refl wr.heap.size wr).alloc zn2 (.cells #[.string sn,.int .i64 sv,.int .i64 sl,.int .i64 sc] 49)
    have hQa:=hQB.on hali
    obtain ⟨m4,o4⟩:=hQa 4 _ rfl
    go_upto_region 5 with fail
    go_region_law (first
     | (refine zH wr.drew rfl _ _ 30 rfl wk.heap.size (fun _=>False) 49 iv (.agg #[.string ⟨#[]⟩,.int .i64 0,.int .i64 0,.int .i64 0]) 4 40 Tryz.underlying30 hiv hiv0 hiv1 hiv2 rfl zI (.slice ra j rc) acj q [.string sn,.int .i64 sv,.int .i64 sl,.int .i64 sc] wr.heap.size rfl rfl rfl (by simp [Value.oneCell']) hRow hp hFs (fun x hx=>(hRow.lt x hx).2) (fun b hb=>hb.elim) (by omega) (by unfold maxLen;omega) hFs ?_;intro vb wb hOb2 hgb2 hbb hat;have hBb:=hQB.blk (hbb.block _ hql);obtain ⟨m5,n5⟩:=hBb 4 _ rfl;obtain ⟨vba,vbc,hvb,hvbl,hvbm⟩:=hOb2.form;rw [List.length_append,List.length_singleton,hlj] at hvb;subst hvb)
     | fail)
    all_goals (
     have hBc:=hBb.set (i:=4) (by simp) (.slice vba (j+1) vbc)
     have hRc2:=hOb2.set zI (X:=Q) (i:=4) hql (.slice vba (j+1) vbc)
     have hFc:=((hF.drew).andD hbb zn2).setX (i:=4) (.slice vba (j+1) vbc)
     have hac2:c.2.2.1.take (j+1)=acj++[q]:=by rw [List.take_succ_eq_append_getElem hjt,HACJ.out,HQ.out]
     clear hQa m4 o4 hali hgb2 hbb hat hBb m5 n5 hOb2 k4 z4 P4 C0 C1 C2 C3
     go_wp2
     go_roundw
     case rel=>exact ⟨j+1,_,hjl,by go_num,hBc,by rw [hac2];exact hRc2,hFc⟩
     case measure=>simp [RowKit.intOf];omega)
   ·have i3:¬ (j:Int) < (n:Int):=by omega
    have hjn:j=n:=by omega
    subst hjn
    have hfull:acj=c.2.2.1:=by rw [<- HACJ.out];exact List.take_of_length_le (by rw [HN.out];omega)
    have hRr:=hRc.fx hF (by omega)
    have hS2:=HS.out
    have hvars:=(hRow.rd zI).stay zI (ok':=fun b=>S+2<=b) (w':=zV wr (S+1) 0 [.string nv,.int .i64 vn,.int .i64 ln,.int .i64 co,.slice ra j rc,.slice iq i ic]) (fun b hb hl=>⟨by omega,zt _ _ _ _ _ (by omega)⟩)
    rw [hfull] at hvars
    have hstates:=hQr.stay (zp d) (ok':=fun b=>S+2<=b) (w':=zV wr (S+1) 0 [.string nv,.int .i64 vn,.int .i64 ln,.int .i64 co,.slice ra j rc,.slice iq i ic]) (fun b hb hl=>⟨hb.1,(zt _ _ _ _ _ (by omega)).trans (hF.block b hl (fun e=>hb.2 (Option.some.inj e)))⟩)
    have hfin:=HR.out _ _ _ _ _ _ (hvars.stay zI (ok':=fun b=>w.heap.size<=b) (fun b hb hl=>⟨by omega,rfl⟩)) (hstates.stay (zp d) (ok':=fun b=>w.heap.size<=b) (fun b hb hl=>⟨by omega,rfl⟩))
    have hbz:=zx [.string nv,.int .i64 vn,.int .i64 ln,.int .i64 co,.slice ra j rc,.slice iq i ic] wr (S+1) 0 hbr (by omega)
    clear hS2
    have t0:=(hQB 0 _ rfl).1
    obtain ⟨r0,f0⟩:=hRr 0 _ rfl
    have t1:=(hQB 1 _ rfl).1
    obtain ⟨r1,f1⟩:=hRr 1 _ rfl
    have t2:=(hQB 2 _ rfl).1
    obtain ⟨r2,f2⟩:=hRr 2 _ rfl
    have t3:=(hQB 3 _ rfl).1
    obtain ⟨r3,f3⟩:=hRr 3 _ rfl
    have t4:=(hQB 4 _ rfl).1
    obtain ⟨r4,f4⟩:=hRr 4 _ rfl
    have t5:=(hQB 5 _ rfl).1
    obtain ⟨r5,f5⟩:=hRr 5 _ rfl
    have hRz:=(((((hRr.set (i:=0) (by simp) (.string nv)).set (i:=1) (by simp) (.int .i64 vn)).set (i:=2) (by simp) (.int .i64 ln)).set (i:=3) (by simp) (.int .i64 co)).set (i:=4) (by simp) (.slice ra j rc)).set (i:=5) (by simp) (.slice iq i ic)
    go_wp2
    exact bodyPost_ret (zjk hRz rfl) rfl ⟨_,rfl,hfin,hbz⟩
end Go.Proofs.YtlkdaldfklaicaaGreatDoor
namespace Go.Proofs.YtlkdaldfklaicaaGreatDoor
end Go.Proofs.YtlkdaldfklaicaaGreatDoor
namespace Go.Proofs.YtlkdaldfklaicaaGreatDoor
open Go.RowKit Go.Lib
set_option linter.unusedSimpArgs false
set_option linter.unusedVariables false
attribute [local go_sem ↓] Go.wp_at_zero Go.wp_at_succ
attribute [local go_sem] zcl zcb zbI zcc zbN zbF zcj zbx zbK zbz zcm zbM zbL zbE zbA
theorem zhm (w:World) (n:Value):(Instr.typeAssert (.iface 117 (.agg #[n])) 87 124 true).run Tryz.prog w=.ok (.tuple #[.agg #[.string ⟨#[]⟩,.nilIface,.nilIface],.bool false]) w:=by kernel_rfl
theorem zht (w:World) (n:Value):(Instr.typeAssert (.iface 119 (.agg #[n])) 87 124 true).run Tryz.prog w=.ok (.tuple #[.agg #[.string ⟨#[]⟩,.nilIface,.nilIface],.bool false]) w:=by kernel_rfl
theorem zhJ (w:World) (n:Value):(Instr.typeAssert (.iface 121 (.agg #[n])) 87 124 true).run Tryz.prog w=.ok (.tuple #[.agg #[.string ⟨#[]⟩,.nilIface,.nilIface],.bool false]) w:=by kernel_rfl
theorem zhs (w:World) (n:Value):(Instr.typeAssert (.iface 122 (.agg #[n])) 87 124 true).run Tryz.prog w=.ok (.tuple #[.agg #[.string ⟨#[]⟩,.nilIface,.nilIface],.bool false]) w:=by kernel_rfl
attribute [local go_sem] zhm zht zhJ zhs
end Go.Proofs.YtlkdaldfklaicaaGreatDoor
namespace Go.Proofs.YtlkdaldfklaicaaGreatDoor
open Go.RowKit Go.Lib
set_option linter.unusedSimpArgs false
set_option linter.unusedVariables false
attribute [local go_sem ↓] Go.wp_at_zero Go.wp_at_succ
end Go.Proofs.YtlkdaldfklaicaaGreatDoor
namespace Go.Proofs.YtlkdaldfklaicaaGreatDoor
end Go.Proofs.YtlkdaldfklaicaaGreatDoor
namespace Go.Proofs.YtlkdaldfklaicaaGreatDoor
open Go.RowKit Go.Lib
set_option linter.unusedSimpArgs false
set_option linter.unusedVariables false
attribute [local go_sem ↓] Go.wp_at_zero Go.wp_at_succ
structure Fr (w w':World) (v u:Value):Prop where
 grown:w.grownBy w' v.ownBlock
 lies:∀ g,u.ownBlock=some g->v.ownBlock=some g∨w.heap.size<=g
theorem Fr.of {w w':World}{B:Nat}(h:Below B w w') (hB:w.heap.size<=B) (v:Value):Fr w w' v v:=⟨⟨h.os,h.tape,h.output,h.size,fun k hk _=>h.block k (by omega)⟩,fun g hg=>.inl hg⟩
theorem Fr.trans {w w1 w2:World}{v u t:Value}(h:Fr w w1 v u) (k:Fr w1 w2 u t):Fr w w2 v t:=by
 refine ⟨⟨k.grown.os.trans h.grown.os,k.grown.tape.trans h.grown.tape,k.grown.output.trans h.grown.output,zn5 h.grown.size k.grown.size,fun j hj hne=>?_⟩,fun g hg=>?_⟩
 ·rw [k.grown.block j (zn4 hj h.grown.size) (fun e=>?_),h.grown.block j hj hne]
  rcases h.lies j e.symm with q|q
  ·exact hne q.symm
  ·omega
 ·rcases k.lies g hg with q|q
  ·exact h.lies g q
  ·exact .inr (zn5 h.grown.size q)
theorem Fr.below {w w':World}{v u:Value}{B:Nat}(h:Fr w w' v u) (hB:B<=w.heap.size) (hv:∀ g,v.ownBlock=some g->B<=g):Below B w w':=(Below.refl B w).grown h.grown hB (fun k hk=>hv k hk)
def zn0 (s:List UInt8 × Sx):Prop:=zdS s/\zb5 s.2<=1000
def OnK (o:OnC):Prop:=o.1.length<=140737488351232/\o.2.2.1.length<=140737488351232/\(o.2.1.1=true->zgx o.2.1.2/\zb5 o.2.1.2<=1000/\exX o.2.1.2≠.nilIface)/\∀ s∈o.2.2.2.1,zn0 s
theorem Tryz.infoPS:(Tryz.prog.info? 61).map (fun i=>(i.zero,i.size,i.bytes))=some (some (.pointer none),1,8):=by kernel_rfl
theorem zkY {w4:World}{R:Nat}{a b c d e f:Value}{tmps:Array Value}(hR:Bn w4 R [a,b,c,d,e,f]) (ht:tmps.getD 2 undef=.pointer (some ⟨R,0,none⟩)):(results Tryz.f11 tmps).run Tryz.prog w4=.ok (.agg #[a,b,c,d,e,f]) w4:=by
 have ht':tmps[2]?.getD undef=.pointer (some ⟨R,0,none⟩):=by simpa using ht
 have c0:=(hR 0 _ rfl).1
 have c1:=(hR 1 _ rfl).1
 have c2:=(hR 2 _ rfl).1
 have c3:=(hR 3 _ rfl).1
 have c4:=(hR 4 _ rfl).1
 have c5:=(hR 5 _ rfl).1
 simp [results,Tryz.results11,go_sem,ht',c0,c1,c2,c3,c4,c5]
theorem zja {w:World}{base e size:Nat}{v:Value}{n:Nat}{xs:List Value}(h:w.ownsRow base e size v n xs):∃ a cap,v=.slice a n cap/\n<=cap/\cap<=maxLen:=by
 rcases h.2 with ⟨h1,h2⟩|⟨g,cap,cur,h1,_,_,h3,h4,_⟩
 ·exact ⟨none,0,by rw [h1,h2],by omega,by simp [maxLen]⟩
 ·exact ⟨_,_,h1,h3,h4⟩
def stG (d:Nat) (c:ChG d):ChG d:=((c.1.1,(0,0)),c.2.1,c.2.2.1.map spV,c.2.2.2.map (stS d))
theorem zkh {α:Type}{l:List α}(h:l≠[]):∃ l' x,l=l'++[x]:=⟨l.dropLast,l.getLast h,(List.dropLast_concat_getLast h).symm⟩
structure zme (d:Nat) (c:ChG d):Prop where
 nm:c.1.1.length<=140737488351232
 vl:c.2.2.1.length<=100000
 vn:∀ x∈c.2.2.1,x.1.length<=140737488351232
 fo:zhn ⟨d,c.2.2.2⟩
 sz:szL d c.2.2.2<=1000000
def zno (N d:Nat) (c:ChG d) (nm:ByteArray) (vn:Int) (u1:Option Addr) (n u3:Nat) (w':World):Prop:=
 (∀ j u,[.string nm,.int .i64 vn,.int .i64 0,.int .i64 0,.slice u1 n u3][j]?=some u->w'.cell? ⟨N,j,none⟩=some u)/\(∃ s5,w'.cell? ⟨N,5,none⟩=some s5/\zmP (N+2) w' ⟨d,c.2.2.2⟩ s5)/\RdK (fun b=>N+2<=b) w' 4 (zbo (fun b=>N+2<=b) w') (c.2.2.1.map spV) (.slice u1 n u3)/\Bn w' (N+1) [.string ⟨#[]⟩,.int .i64 0,.int .i64 0,.int .i64 0,.slice none 0 0,.slice none 0 0]
theorem zg2 {N d:Nat}{c:ChG d}{nm:ByteArray}{vn:Int}{u1:Option Addr}{n u3:Nat}{w7:World}{s5:Value}(hX:Bn w7 N [.string nm,.int .i64 vn,.int .i64 0,.int .i64 0,.slice u1 n u3,s5]) (hR:Bn w7 (N+1) [.string ⟨#[]⟩,.int .i64 0,.int .i64 0,.int .i64 0,.slice none 0 0,.slice none 0 0]) (hr:RdK (fun b=>N+2<=b) w7 4 (zbo (fun b=>N+2<=b) w7) (c.2.2.1.map spV) (.slice u1 n u3)) (hs:RdK (fun b=>b < N) w7 11 (rSt d (fun b=>b < N) w7) c.2.2.2 s5) (hf:zhn ⟨d,c.2.2.2⟩) (hN:N+2<=w7.heap.size) :
  PInv N (zno N d c nm vn u1 n u3) (fun b=>b=w7.heap.size) (w7.alloc (.cells #[.pointer (some ⟨N,5,none⟩)] 61)) (.slice (some ⟨w7.heap.size,0,none⟩) 1 1) [((N,5),⟨d,c.2.2.2⟩)]:=by
 have hal:=(Below.refl w7.heap.size w7).alloc zn2 (.cells #[.pointer (some ⟨N,5,none⟩)] 61)
 have hX8:=hX.on hal
 have hR8:=hR.on hal
 have hsz:(w7.alloc (.cells #[.pointer (some ⟨N,5,none⟩)] 61)).heap.size=w7.heap.size+1:=by simp
 have hrow:=World.ownsRow_lit (e:=61) (base:=N) (size:=1) w7 #[.pointer (some ⟨N,5,none⟩)] 1 (by omega) (by simp [maxLen]) (by simp)
 have hr8:=hr.stay zI (ok':=fun b=>N+2<=b/\b < w7.heap.size) (w':=w7.alloc (.cells #[.pointer (some ⟨N,5,none⟩)] 61)) (fun b hb hl=>⟨⟨hb,hl⟩,hal.block b hl⟩)
 have hs8:=hs.stay (zp d) (ok':=fun b=>b < N) (w':=w7.alloc (.cells #[.pointer (some ⟨N,5,none⟩)] 61)) (fun b hb hl=>⟨hb,hal.block b hl⟩)
 generalize w7.alloc (.cells #[.pointer (some ⟨N,5,none⟩)] 61)=w8 at *
 refine ⟨by simpa [pdV,pdA] using hrow,fun p hp=>?_,List.pairwise_singleton _ _,fun w' hA hrd=>?_,fun b hb=>?_,fun g hg=>?_,by omega⟩
 ·have:p=((N,5),⟨d,c.2.2.2⟩):=by simpa using hp
  subst this
  obtain ⟨c5,f5⟩:=hX8 5 _ rfl
  exact ⟨Nat.le_refl _,by show N < _;omega,f5,by show ¬ N=_;omega,hf,s5,c5,hs8⟩
 ·obtain ⟨v,h1,h2⟩:=hrd _ List.mem_cons_self
  refine ⟨fun j u hu=>?_,⟨v,h1,h2⟩,hr8.stay zI (fun b hb hl=>⟨hb.1,hA.block b hl (by show ¬ b=_;omega) (fun p hp=>by
   have:p=((N,5),⟨d,c.2.2.2⟩):=by simpa using hp
   subst this
   show N≠b
   omega)⟩),hR8.blk (hA.block _ (by omega) (by show ¬ N+1=_;omega) (fun p hp=>by
   have:p=((N,5),⟨d,c.2.2.2⟩):=by simpa using hp
   subst this
   show N≠N+1
   omega))⟩
  have hj:j < 5:=(List.getElem?_eq_some_iff.1 hu).1
  rw [hA.cell N j (by omega) (by show ¬ N=_;omega) (fun p hp=>by
   have:p=((N,5),⟨d,c.2.2.2⟩):=by simpa using hp
   subst this
   intro e
   have:5=j:=congrArg Prod.snd e
   omega)]
  refine (hX8 j u ?_).1
  match j,hj with
  | 0,_=>exact hu
  | 1,_=>exact hu
  | 2,_=>exact hu
  | 3,_=>exact hu
  | 4,_=>exact hu
 ·have:b=w7.heap.size:=hb
  omega
 ·simp only [Value.ownBlock,Option.some.injEq] at hg
  exact hg.symm
theorem zjn {ok:Nat->Prop}{w:World}{d:Nat}{c:ChG d}{v:Value}(h:RdC ok w d c v) (hok:zme d c) :
  Calls Tryz.prog 11 #[v] w fun e w'=>∃ u,e=.returned u/\RdC (fun b=>w.heap.size<=b) w' d (stG d c) u/\Below w.heap.size w w':=by
 obtain ⟨ip,hip,hip0,hip1,hip2⟩:=info_parts Tryz.infoPS
 obtain ⟨sv,ss,rfl,hv,hs⟩:=h
 obtain ⟨a,cap,rfl,hlc,hcm⟩:=hv.form
 obtain ⟨p4,p6,rfl,_⟩:=hs.form
 have HV:=zm hv
 have HS:=zm hs
 obtain ⟨nm,hnm⟩:∃ nv:ByteArray,⟨c.1.1.toArray⟩=nv:=⟨_,rfl⟩
 have hz1:nm.size<=140737488351232:=by rw [<- hnm];show c.1.1.toArray.size<=_;simpa using hok.nm
 obtain ⟨n,hn⟩:∃ n,c.2.2.1.length=n:=⟨_,rfl⟩
 obtain ⟨i,hi⟩:∃ n,c.2.2.2.length=n:=⟨_,rfl⟩
 obtain ⟨vn,hvn⟩:∃ x,c.2.1=x:=⟨_,rfl⟩
 obtain ⟨ln,hln⟩:∃ x,c.1.2.1=x:=⟨_,rfl⟩
 obtain ⟨co,hco⟩:∃ x,c.1.2.2=x:=⟨_,rfl⟩
 rw [show sV c.1.1=.string nm from by unfold sV;rw [hnm],hvn,hln,hco,hi,hn]
 rw [hi] at HS
 rw [hn] at HV
 have HOK:=zm hok
 have HN:Hid (c.2.2.1.length=n):=hn
 have HE:Hid (∀ (w':World) (u1:Option Addr) (u3:Nat) (s5:Value),RdK (fun b=>w.heap.size<=b) w' 4 (zbo (fun b=>w.heap.size<=b) w') (c.2.2.1.map spV) (.slice u1 n u3)->zmP w.heap.size w' ⟨d,c.2.2.2⟩ s5->RdC (fun b=>w.heap.size<=b) w' d (stG d c) (.agg #[.string nm,.int .i64 vn,.int .i64 0,.int .i64 0,.slice u1 n u3,s5])):=by
  intro w' u1 u3 s5 h1 h2
  refine ⟨_,_,?_,h1,h2⟩
  show _=Value.agg #[sV c.1.1,.int .i64 c.2.1,.int .i64 0,.int .i64 0,_,_]
  rw [show sV c.1.1=.string nm from by unfold sV;rw [hnm],hvn]
 clear hv hs hok hnm hn hi hvn hln hco hcm hlc
 have g1:=fun w1=>zQ nm w1 hz1
 have hal:Below w.heap.size w ((w.alloc (.cells #[.string nm,.int .i64 vn,.int .i64 ln,.int .i64 co,.slice a n cap,.slice p4 i p6] 33)).alloc (.cells #[.string ⟨#[]⟩,.int .i64 0,.int .i64 0,.int .i64 0,.slice none 0 0,.slice none 0 0] 33)):=((Below.refl w.heap.size w).alloc zn2 _).alloc (by simp) _
 have hX:Bn ((w.alloc (.cells #[.string nm,.int .i64 vn,.int .i64 ln,.int .i64 co,.slice a n cap,.slice p4 i p6] 33)).alloc (.cells #[.string ⟨#[]⟩,.int .i64 0,.int .i64 0,.int .i64 0,.slice none 0 0,.slice none 0 0] 33)) w.heap.size [.string nm,.int .i64 vn,.int .i64 ln,.int .i64 co,.slice a n cap,.slice p4 i p6]:=(Bn.new w [.string nm,.int .i64 vn,.int .i64 ln,.int .i64 co,.slice a n cap,.slice p4 i p6] 33 _ rfl).on (zn3.alloc zn2 _)
 have hR:Bn ((w.alloc (.cells #[.string nm,.int .i64 vn,.int .i64 ln,.int .i64 co,.slice a n cap,.slice p4 i p6] 33)).alloc (.cells #[.string ⟨#[]⟩,.int .i64 0,.int .i64 0,.int .i64 0,.slice none 0 0,.slice none 0 0] 33)) (w.heap.size+1) [.string ⟨#[]⟩,.int .i64 0,.int .i64 0,.int .i64 0,.slice none 0 0,.slice none 0 0]:=Bn.new (w.alloc (.cells #[.string nm,.int .i64 vn,.int .i64 ln,.int .i64 co,.slice a n cap,.slice p4 i p6] 33)) [.string ⟨#[]⟩,.int .i64 0,.int .i64 0,.int .i64 0,.slice none 0 0,.slice none 0 0] 33 _ (by simp)
 have hsz:w.heap.size+2<=((w.alloc (.cells #[.string nm,.int .i64 vn,.int .i64 ln,.int .i64 co,.slice a n cap,.slice p4 i p6] 33)).alloc (.cells #[.string ⟨#[]⟩,.int .i64 0,.int .i64 0,.int .i64 0,.slice none 0 0,.slice none 0 0] 33)).heap.size:=by simp
 go_enter Tryz.func11,Tryz.ntmps11
 go_upto_region 1 with fail
 generalize ((w.alloc (.cells #[.string nm,.int .i64 vn,.int .i64 ln,.int .i64 co,.slice a n cap,.slice p4 i p6] 33)).alloc (.cells #[.string ⟨#[]⟩,.int .i64 0,.int .i64 0,.int .i64 0,.slice none 0 0,.slice none 0 0] 33))=wx at *
 obtain ⟨c0,e0⟩:=hX 0 _ rfl
 go_upto_region 2 with (first
  | (go_at_call 22;refine (g1 _).mono ?_;rintro e w1 ⟨rfl,b1⟩;have hX1:=hX.on b1;obtain ⟨x0,y0⟩:=hX1 0 _ rfl))
 have hX2:=hX1.set (i:=0) (by simp) (.string nm)
 have hR2:=(hR.on b1).far (X:=w.heap.size) (i:=0) (by omega) (.string nm)
 have hB2:Below w.heap.size w (w1.setCell ⟨w.heap.size,0,none⟩ (.string nm)):=(hal.trans (b1.mono (by omega))).setCell zn2 _
 have hs2:w.heap.size+2<=(w1.setCell ⟨w.heap.size,0,none⟩ (.string nm)).heap.size:=by simpa using zn5 hsz b1.size
 clear hX hR hX1 x0 y0 c0 e0 b1 hal hsz g1
 generalize w1.setCell ⟨w.heap.size,0,none⟩ (.string nm)=w2 at *
 obtain ⟨a1,q1⟩:=hX2 2 _ rfl
 obtain ⟨a2,q2⟩:=hX2 3 _ rfl
 go_upto_region 3 with fail
 have hX3:=(hX2.set (i:=2) (by simp) (.int .i64 0)).set (i:=3) (by simp) (.int .i64 0)
 have hR3:=(hR2.far (X:=w.heap.size) (i:=2) (by omega) (.int .i64 0)).far (X:=w.heap.size) (i:=3) (by omega) (.int .i64 0)
 have hB3:Below w.heap.size w ((w2.setCell ⟨w.heap.size,2,none⟩ (.int .i64 0)).setCell ⟨w.heap.size,3,none⟩ (.int .i64 0)):=(hB2.setCell (p:=⟨w.heap.size,2,none⟩) zn2 _).setCell (p:=⟨w.heap.size,3,none⟩) zn2 _
 have hs3:w.heap.size+2<=((w2.setCell ⟨w.heap.size,2,none⟩ (.int .i64 0)).setCell ⟨w.heap.size,3,none⟩ (.int .i64 0)).heap.size:=by simpa using hs2
 clear hX2 hR2 hB2 hs2 a1 q1 a2 q2
 generalize (w2.setCell ⟨w.heap.size,2,none⟩ (.int .i64 0)).setCell ⟨w.heap.size,3,none⟩ (.int .i64 0)=w3 at *
 have hE:Calls Tryz.prog 23 #[.slice a n cap,.func (.func 24) #[] #[]] w3 fun e w'=>∃ u1 u3,e=.returned (.slice u1 n u3)/\RdK (fun b=>w3.heap.size<=b) w' 4 (zbo (fun b=>w3.heap.size<=b) w') (c.2.2.1.map spV) (.slice u1 n u3)/\Below w3.heap.size w3 w':=by
  refine (zgZ (HV.out.stay zI (ok':=ok) (w':=w3) (fun b hb hl=>⟨hb,hB3.block b hl⟩)) HOK.out.vl HOK.out.vn).mono ?_
  rintro e w' ⟨u,h1,h2,h3⟩
  obtain ⟨u1,u3,rfl,_⟩:=h2.form
  rw [List.length_map,HN.out] at h1 h2
  exact ⟨u1,u3,h1,h2,h3⟩
 obtain ⟨c4,e4⟩:=hX3 4 _ rfl
 go_upto_region 4 with (first
  | (go_at_call 23;refine hE.mono ?_;rintro e w4 ⟨u1,u3,rfl,hr,b4⟩;have hX4:=hX3.on b4;obtain ⟨x4,y4⟩:=hX4 4 _ rfl))
 have hX5:Bn (w4.setCell ⟨w.heap.size,4,none⟩ (.slice u1 n u3)) w.heap.size [.string nm,.int .i64 vn,.int .i64 0,.int .i64 0,.slice u1 n u3,.slice p4 i p6]:=hX4.set (i:=4) (by simp) (.slice u1 n u3)
 have hR5:=(hR3.on b4).far (X:=w.heap.size) (i:=4) (by omega) (.slice u1 n u3)
 have hB5:Below w.heap.size w (w4.setCell ⟨w.heap.size,4,none⟩ (.slice u1 n u3)):=(hB3.trans (b4.mono (by omega))).setCell zn2 _
 have hs5:w.heap.size+2<=(w4.setCell ⟨w.heap.size,4,none⟩ (.slice u1 n u3)).heap.size:=by simpa using zn5 hs3 b4.size
 have hr5:=hr.stay zI (ok':=fun b=>w.heap.size+2<=b) (w':=w4.setCell ⟨w.heap.size,4,none⟩ (.slice u1 n u3)) (fun b hb hl=>⟨by omega,Below.heap_setCell _ _ _ _ (fun e=>by have e2:b=w.heap.size:=e;omega)⟩)
 clear hX3 hR3 hX4 x4 y4 c4 e4 b4 hB3 hs3 hr hE
 generalize w4.setCell ⟨w.heap.size,4,none⟩ (.slice u1 n u3)=w5 at *
 have hst:=zg2 (c:=c) hX5 hR5 hr5 (HS.out.stay (zp d) (ok':=fun b=>b < w.heap.size) (w':=w5) (fun b hb hl=>⟨hl,hB5.block b hl⟩)) HOK.out.fo hs5
 have hb6:Below w.heap.size w (w5.alloc (.cells #[.pointer (some ⟨w.heap.size,5,none⟩)] 61)):=hB5.alloc (by omega) _
 have HST:=zm hst
 clear hst hX5 hR5 hr5 hB5 hs5 HV HS
 go_wp2
 go_loopg [3] 1000000 (fun gn v wr=>∃ (P:List Pd) (X:Nat->Prop),Hid (PInv w.heap.size (zno w.heap.size d c nm vn u1 n u3) X wr v P)/\Hid ((P.map szF).sum<=gn/\gn<=1000000)/\Below w.heap.size w wr)
 case atStart=>
  refine ⟨_,_,HST,⟨?_,Nat.le_refl _⟩,hb6⟩
  show szL d c.2.2.2+0<=1000000
  have:=HOK.out.sz
  omega
 case round=>
  obtain ⟨P,X,hI,hM,hb⟩:=hrel
  by_cases he:P=[]
  ·subst he
   obtain ⟨ra,rc,rfl⟩:=zgD hI.out.row
   obtain ⟨hc5,⟨s5,hs5,hrs⟩,hrv,hRb⟩:=hI.out.wnd.end
   obtain ⟨y1,y3,hy,_⟩:=hrs.form
   rw [List.length_map] at hy
   subst hy
   obtain ⟨y2,hy2⟩:∃ y2,c.2.2.2.length=y2:=⟨_,rfl⟩
   simp only [hy2] at hs5 hrs
   have k0:=hc5 0 _ rfl
   have k1:=hc5 1 _ rfl
   have k2:=hc5 2 _ rfl
   have k3:=hc5 3 _ rfl
   have k4:=hc5 4 _ rfl
   have hfin:=HE.out (zV wr (w.heap.size+1) 0 [.string nm,.int .i64 vn,.int .i64 0,.int .i64 0,.slice u1 n u3,.slice y1 y2 y3]) u1 u3 (.slice y1 y2 y3) (hrv.stay zI (fun b hb hl=>⟨by omega,zt _ _ _ _ _ (by omega)⟩)) (hrs.stay (zp d) (fun b hb hl=>⟨by omega,zt _ _ _ _ _ (by omega)⟩))
   have hbz:=zx [.string nm,.int .i64 vn,.int .i64 0,.int .i64 0,.slice u1 n u3,.slice y1 y2 y3] wr (w.heap.size+1) 0 hb (by omega)
   obtain ⟨r0,f0⟩:=hRb 0 _ rfl
   obtain ⟨r1,f1⟩:=hRb 1 _ rfl
   obtain ⟨r2,f2⟩:=hRb 2 _ rfl
   obtain ⟨r3,f3⟩:=hRb 3 _ rfl
   obtain ⟨r4,f4⟩:=hRb 4 _ rfl
   obtain ⟨r5,f5⟩:=hRb 5 _ rfl
   have hRz:=(((((hRb.set (i:=0) (by simp) (.string nm)).set (i:=1) (by simp) (.int .i64 vn)).set (i:=2) (by simp) (.int .i64 0)).set (i:=3) (by simp) (.int .i64 0)).set (i:=4) (by simp) (.slice u1 n u3)).set (i:=5) (by simp) (.slice y1 y2 y3)
   clear hI hM hrs hrv hc5
   go_wp2
   exact bodyPost_ret (zkY hRz rfl) rfl ⟨_,rfl,hfin,hbz⟩
  ·obtain ⟨P',p,rfl⟩:=zkh he
   obtain ⟨dd,l,hI2,hszp⟩:=hI.out.deep
   obtain ⟨pp,hpp⟩:∃ x,p.1=x:=⟨_,rfl⟩
   rw [hpp] at hI2
   obtain ⟨pb,po⟩:=pp
   have hm:=hM.out
   rw [List.map_append,List.sum_append,List.map_singleton,List.sum_singleton,hszp] at hm
   have hpl:P'.length<=1000000:=by
    have:P'.length<=(P'.map szF).sum:=ziH P'
    omega
   obtain ⟨o1,o2,o3,o4,o5,u0,o6,o7⟩:=hI2.ok _ (List.mem_append_right _ List.mem_cons_self)
   have o1:w.heap.size<=pb:=o1
   have o2:pb < wr.heap.size:=o2
   have o3:wr.frozen? ⟨pb,po,none⟩=false:=o3
   have o6:wr.cell? ⟨pb,po,none⟩=some u0:=o6
   obtain ⟨s1,s3,rfl,_⟩:=o7.form
   have hrow:=hI2.row
   rw [List.map_append,List.length_append,List.map_singleton,List.length_singleton] at hrow
   obtain ⟨g,cap',rfl,hcap,hcm,hgb,hgl,hcell,hpop⟩:=zes (by simp) hrow
   have hcell:wr.cell? ⟨g,P'.length,none⟩=some (.pointer (some ⟨pb,po,none⟩)):=hcell
   have hXg:=hI2.x2 g rfl
   have hgp:g≠pb:=fun e=>o4 (e ▸ hXg)
   have hsz2:w.heap.size+2<=wr.heap.size:=hI2.big
   have hcall:Calls Tryz.prog 25 #[.slice s1 l.length s3,.func (.func 26) #[] #[]] wr fun e w'=>e=.returned (.slice (some ⟨wr.heap.size,0,none⟩) l.length l.length)/\Hid (RowG w' wr.heap.size 11 l.length (rHf dd (fun b=>b < w.heap.size) wr) l)/\Below wr.heap.size wr w'/\wr.heap.size < w'.heap.size:=zhd o7 o5.1 (fun s hs=>(o5.2 s hs).1)
   have hll:l.length<=100000:=o5.1
   have HI2:=zm hI2
   have HPOP:=zm hpop
   have HM2:Hid ((P'.map szF).sum+szL (dd+1) l<=gk/\gk<=1000000):=hm
   obtain ⟨m,hml⟩:∃ m,P'.length=m:=⟨_,rfl⟩
   obtain ⟨nl,hnl⟩:∃ m,l.length=m:=⟨_,rfl⟩
   rw [hml] at hcell hcap hpl ⊢
   rw [hnl] at hcall hll o6
   have HML:Hid (P'.length=m):=hml
   have HNL:Hid (l.length=nl):=hnl
   clear hI hM hI2 hm hrow hpop he hml hnl o5 o7 hszp hXg
   have i1:((m:Int)+1 > 0):=by omega
   have i3:(0:Int)<=(m:Int):=by omega
   have i4:(m:Int)<=(cap':Int):=by omega
   have i5:(m:Int) < (m:Int)+1:=by omega
   go_upto_region 8 with (first
    | (go_at_call 25;refine hcall.mono ?_;rintro e w6 ⟨rfl,hu,b6,hG6⟩))
   have G1:=(b6.cell (p:=⟨g,m,none⟩) hgl).trans hcell
   have Q1:=(b6.cell (p:=⟨pb,po,none⟩) o2).trans o6
   have Q2:=(b6.frozen (p:=⟨pb,po,none⟩) o2).trans o3
   go_upto_region 9 with fail
   obtain ⟨w7,hw7⟩:∃ x,w6.setCell ⟨pb,po,none⟩ (.slice (some ⟨wr.heap.size,0,none⟩) nl nl)=x:=⟨_,rfl⟩
   have hs7:w7.heap.size=w6.heap.size:=by rw [<- hw7];simp
   have hb7:Below w.heap.size w w7:=by rw [<- hw7];exact (hb.trans (b6.mono hb.size)).setCell o1 _
   have hrow7:w7.ownsRow w.heap.size 61 1 (.slice (some ⟨g,0,none⟩) m cap') m (P'.map pdV):=by
    have h1:=zdI HPOP.out b6 zn2
    rw [HML.out] at h1
    rw [<- hw7]
    refine zaG h1 (fun g' hg'=>?_)
    have:g=g':=Option.some.inj hg'
    subst this
    exact Below.heap_setCell _ _ _ _ (fun e=>hgp e)
   rw [hw7]
   have HW7:=zm hw7
   obtain ⟨GB,hGB⟩:∃ x,wr.heap.size=x:=⟨_,rfl⟩
   rw [hGB]
   have HGB:=zm hGB
   have HU:=zm hu
   clear hw7 hGB hcell o6 o3 G1 Q1 Q2 hcall hu
   have hr0:Hid (w7.ownsRow w.heap.size 61 1 (.slice (some ⟨g,0,none⟩) m cap') (m+0) ((P'++(zaJ wr.heap.size dd 0 l).take 0).map pdV)):=by
    show w7.ownsRow _ _ _ _ _ _
    rw [List.take_zero,List.append_nil]
    exact hrow7
   have hsw7:w.heap.size<=w7.heap.size:=hb7.size
   clear hrow7
   go_wp2
   go_loopw [3,43] (fun v3 ix wr=>∃ (j:Nat),j<=nl/\ix=.int .i64 (j:Int)/\Hid (wr.ownsRow w.heap.size 61 1 v3 (m+j) ((P'++(zaJ GB dd 0 l).take j).map pdV))/\Hid (Fr w7 wr (.slice (some ⟨g,0,none⟩) m cap') v3)) (fun _ ix _=>nl - (RowKit.intOf ix).toNat)
   case atStart=>exact ⟨0,Nat.zero_le _,rfl,by rw [<- HGB.out];exact hr0,Fr.of (Below.refl w7.heap.size w7) zn2 _⟩
   case round=>
    obtain ⟨wo,hwo⟩:∃ x,x=wr:=⟨_,rfl⟩
    clear hr0
    obtain ⟨j,hj,rfl,hrj,hfj⟩:=hrel
    obtain ⟨ra,rc,rfl,hrl,hrm⟩:=zja hrj.out
    have hws:=hfj.out.grown.size
    by_cases hjl:j < nl
    ·have i6:(j:Int) < (nl:Int):=by omega
     have i7:(0:Int)<=(j:Int):=by omega
     have hjll:j < l.length:=by rw [HNL.out];exact hjl
     have hkj:(zaJ GB dd 0 l).take (j+1)=(zaJ GB dd 0 l).take j++[((GB,j*11+10),⟨dd,l[j].2⟩)]:=by
      rw [List.take_succ_eq_append_getElem (by rw [zdf];exact hjll),zh0 0 dd l j hjll,Nat.zero_add]
     have hxs:(P'++(zaJ GB dd 0 l).take (j+1)).map pdV=(P'++(zaJ GB dd 0 l).take j).map pdV++[(.pointer (some ⟨GB,j*11+10,none⟩))]:=by
      rw [hkj,<- List.append_assoc,List.map_append];rfl
     go_wp2_with (first
      | (at_builtin;refine za8 _ rfl _ _ 62 62 rfl w.heap.size 61 ip (.pointer none) 1 8 Tryz.underlying62 hip hip0 hip1 hip2 rfl (.slice ra (m+j) rc) (m+j) ((P'++(zaJ GB dd 0 l).take j).map pdV) rfl (World.ownsRow.alloc hrj.out _) _ 1 [(.pointer (some ⟨GB,j*11+10,none⟩))] rfl (zds Tryz.underlying62 _ [(.pointer (some ⟨GB,j*11+10,none⟩))] rfl (by simp [Value.oneCell'])) 1 (.inr (by omega)) zn2 (by unfold maxLen;omega) (by simp;omega) ?_;intro vb wb hown hgr hat)
      | fail)
     have hfr:Hid (Fr w7 wb (.slice (some ⟨g,0,none⟩) m cap') vb):=by
      have h1:Fr wr (wr.alloc (.cells #[.pointer (some ⟨GB,j*11+10,none⟩)] 61)) (.slice ra (m+j) rc) (.slice ra (m+j) rc):=Fr.of ((Below.refl wr.heap.size wr).alloc zn2 _) zn2 _
      have h2:Fr (wr.alloc (.cells #[.pointer (some ⟨GB,j*11+10,none⟩)] 61)) wb (.slice ra (m+j) rc) vb:=⟨hgr,fun g' hg'=>by
       rcases hat with e|e
       ·exact .inl (e ▸ hg')
       ·rw [e] at hg'
        have:_=g':=Option.some.inj hg'
        exact .inr (by omega)⟩
      exact (hfj.out.trans h1).trans h2
     have hown2:Hid (wb.ownsRow w.heap.size 61 1 vb (m+(j+1)) ((P'++(zaJ GB dd 0 l).take (j+1)).map pdV)):=by
      show wb.ownsRow _ _ _ _ _ _
      rw [hxs]
      exact hown
     clear hown hgr hat hrj hfj hxs hkj
     go_wp2
     go_roundw
     case rel=>exact ⟨j+1,hjl,by go_num,hown2,hfr⟩
     case measure=>simp [RowKit.intOf];omega
    ·have i6:¬ (j:Int) < (nl:Int):=by omega
     have hjn:j=nl:=by omega
     subst hjn
     have hfull:(zaJ GB dd 0 l).take j=zaJ GB dd 0 l:=List.take_of_length_le (by rw [zdf,HNL.out];exact Nat.le_refl _)
     have hrf:=hrj.out
     rw [hfull] at hrf
     have hF:=hfj.out
     have hlen:(P'++zaJ GB dd 0 l).length=m+j:=by rw [List.length_append,zdf,HML.out,HNL.out]
     have hrf2:wr.ownsRow w.heap.size 61 1 (.slice ra (m+j) rc) (P'++zaJ GB dd 0 l).length ((P'++zaJ GB dd 0 l).map pdV):=by rw [hlen];exact hrf
     have HU2:=HU.out.out
     rw [<- HNL.out] at HU2
     have hpi:PInv w.heap.size (zno w.heap.size d c nm vn u1 n u3) (fun b=>X b∨(Value.slice ra (m+j) rc).ownBlock=some b) wr (.slice ra (m+j) rc) (P'++zaJ GB dd 0 l):=by
      have hs6:w6.heap.size=w7.heap.size:=hs7.symm
      have hst:=PInv.step (w2:=wr) (v2:=.slice ra (m+j) rc) (g:=g) HI2.out b6 HU2 hG6 rfl (by rw [HGB.out];exact hrf2) (by rw [HNL.out,HW7.out];exact hF.grown) (fun g' hg'=>by
       rcases hF.lies g' hg' with e|e
       ·exact .inl (Option.some.inj e)
       ·exact .inr (by omega)) (fun g' hg'=>(zC hrf2 g' hg').2)
      rw [HGB.out] at hst
      exact hst
     have hbf:Below w.heap.size w wr:=hb7.trans (hF.below hsw7 (fun g' hg'=>by have:g=g':=Option.some.inj hg';omega))
     have hsum:=HM2.out
     have hks:=zjZ (G:=GB) 0 dd l
     have hsum2:(((P'++zaJ GB dd 0 l)).map szF).sum=(P'.map szF).sum+((zaJ GB dd 0 l).map szF).sum:=by rw [List.map_append,List.sum_append]
     clear hrj hfj hF hrf hrf2 hfull HU2
     go_wp2
     go_roundg ((P'.map szF).sum+((zaJ GB dd 0 l).map szF).sum)
     case measure=>omega
     case rel=>exact ⟨P'++zaJ GB dd 0 l,_,hpi,⟨by rw [hsum2];exact Nat.le_refl _,by omega⟩,hbf⟩
theorem zjT {x:Sx}(h:SmX x):zgx (clX x)/\zb5 (clX x)<=1000:=by
 obtain ⟨h1,h2⟩:=zjc (d:=x.1) (t:=x.2) h
 have h3:zb5 (clX x)<=1000:=h1
 exact ⟨⟨zdG x.1 x.2,by omega,h2⟩,h3⟩
theorem zmd {v:Value}(h:zb9 v=true):v≠.nilIface:=fun e=>by rw [e] at h;exact absurd h (by decide)
theorem znE {o:OnC}(h:OnS o):OnK (thO o):=by
 obtain ⟨h1,h2,h3,h4,h5⟩:=h
 refine ⟨by show o.1.length<=_;omega,by show o.2.2.1.length<=_;omega,fun hg=>?_,fun s hs=>?_⟩
 ·have hg2:(o.2.1.1 && zb9 (exX o.2.1.2))=true:=hg
  rw [Bool.and_eq_true] at hg2
  obtain ⟨q1,q2⟩:=zjT h3
  exact ⟨q1,q2,by show exX (clX o.2.1.2)≠_;rw [zev];exact zmd hg2.2⟩
 ·obtain ⟨s',hs',rfl⟩:=List.mem_map.1 (show s∈o.2.2.2.1.map thT from hs)
  obtain ⟨q1,q2⟩:=h5 s' hs'
  obtain ⟨q3,q4⟩:=zjT q2
  exact ⟨⟨by show s'.1.length<=_;omega,q3⟩,q4⟩
theorem zmK {o:OnC}(h:OnS o):zeO (thO o):=by
 obtain ⟨k1,k2,k3,k4⟩:=znE h
 exact ⟨k1,k2,fun hg=>(k3 hg).1,fun s hs=>(k4 s hs).1,by show (o.2.2.2.1.map thT).length<=_;rw [List.length_map];have:=h.2.2.2.1;omega⟩
theorem zld:∀ (d:Nat) (t:St d),SmS d t->zah d [t]<=400->zkX d (thS d t)
 | 0,t,_,_=>Empty.elim t
 | d+1,t,h,ht=>by
  obtain ⟨⟨h1,h2,h3,h4,h5⟩,h6⟩:=h
  have ht2:zah d t.2<=400:=by
   have e:zah (d+1) [t]=(1+zah d t.2)+0:=rfl
   omega
  refine ⟨⟨by show t.1.1.1.length<=_;omega,by show t.1.2.2.1.1.length<=_;omega,by show t.1.2.2.1.2.length<=_;omega,by show (t.1.2.2.2.2.map thO).length<=_;rw [List.length_map];omega,fun o ho=>?_⟩,?_,fun x hx=>?_⟩
  ·obtain ⟨o',ho',rfl⟩:=List.mem_map.1 (show o∈t.1.2.2.2.2.map thO from ho)
   exact zmK (h5 o' ho')
  ·show (t.2.map (thS d)).length<=_
   rw [List.length_map]
   match d,t.2,ht2 with
   | 0,[],_=>simp
   | 0,x :: _,_=>exact Empty.elim x
   | d+1,l,hl=>have:=zcK l;omega
  ·obtain ⟨x',hx',rfl⟩:=List.mem_map.1 (show x∈t.2.map (thS d) from hx)
   refine zld d x' (h6 x' hx') ?_
   match d,t.2,x',hx',ht2 with
   | 0,_,x',_,_=>exact Empty.elim x'
   | d+1,l,x',hx',hl=>
    have e:∀ (l:List (St (d+1))) (y:St (d+1)),y∈l->zah (d+1) [y]<=zah (d+1) l:=fun l=>by
     induction l with
     | nil=>intro y hy;cases hy
     | cons z r ih=>
      intro y hy
      have e1:zah (d+1) (z :: r)=(1+zah d z.2)+zah (d+1) r:=rfl
      have e2:zah (d+1) [y]=(1+zah d y.2)+0:=rfl
      rcases List.mem_cons.1 hy with rfl|hy
      ·omega
      ·have:=ih y hy;omega
    have:=e l x' hx'
    omega
theorem zjM:∀ (d:Nat) (l:List (St d)),szL d (l.map (thS d))<=zah d l+1
 | 0,l=>Nat.le_refl _
 | d+1,l=>by
  show ((l.map (thS (d+1))).map (fun t:St (d+1)=>szL d t.2)).sum+1<=(l.map (fun t:St (d+1)=>1+zah d t.2)).sum+1
  rw [List.map_map]
  induction l with
  | nil=>simp
  | cons x r ih=>
   rw [List.map_cons,List.map_cons,List.sum_cons,List.sum_cons]
   have h1:=zjM d x.2
   have h2:((fun t:St (d+1)=>szL d t.2) ∘ thS (d+1)) x=szL d (x.2.map (thS d)):=rfl
   omega
theorem zid:∀ {d:Nat}{l:List (St d)}{t:St d},t∈l->zah d [t]<=zah d l
 | 0,_,t,_=>Empty.elim t
 | d+1,z :: r,t,h=>by
  have e1:zah (d+1) (z :: r)=(1+zah d z.2)+zah (d+1) r:=rfl
  have e2:zah (d+1) [t]=(1+zah d t.2)+0:=rfl
  rcases List.mem_cons.1 h with rfl|h
  ·omega
  ·have:=zid h;omega
theorem zhS:∀ {d:Nat}(l:List (St d)),l.length<=zah d l
 | 0,[]=>Nat.le_refl _
 | 0,x :: _=>Empty.elim x
 | d+1,l=>zcK l
theorem zh7 {d:Nat}{c:ChD d}(h:zms d c) (hw:WfC d c):zme d (thC d c):=by
 obtain ⟨h1,h2,h3,h4⟩:=h
 refine ⟨by show c.1.1.length<=_;omega,by show c.2.2.1.length<=_;omega,fun x hx=>hw.2.1 x hx,⟨?_,fun t ht=>?_⟩,?_⟩
 ·show (c.2.2.2.map (thS d)).length<=_
  rw [List.length_map]
  have:=zhS c.2.2.2
  omega
 ·obtain ⟨t',ht',rfl⟩:=List.mem_map.1 (show t∈c.2.2.2.map (thS d) from ht)
  exact zld d t' (h4 t' ht') (zn5 (zid ht') h3)
 ·show szL d (c.2.2.2.map (thS d))<=_
  have:=zjM d c.2.2.2
  omega
