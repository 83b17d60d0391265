import Derived.Test.YtfjdceknbdmhpaaGreatDoorWxc21
import Derived.Test.YtfjdceknbdmhpaaGreatDoorWxc18
import Derived.Test.YtfjdceknbdmhpaaGreatDoorWxc08
import Derived.Test.YtfjdceknbdmhpaaGreatDoorWxc09
import Derived.Test.YtfjdceknbdmhpaaGreatDoorWxc10
import Derived.Test.YtfjdceknbdmhpaaGreatDoorWxc13
import Derived.Test.YtfjdceknbdmhpaaGreatDoorWxc14
import Derived.Test.YtfjdceknbdmhpaaGreatDoorWxc19
import Derived.Test.YtfjdceknbdmhpaaGreatDoorWxc01
import Derived.ProofKit
import Derived.OpenShut
import Derived.ShutString
import Derived.ChangeOld
import Derived.SizedLaws
import Derived.Below
import Derived.Test.YtfjdceknbdmhpaaGreatDoorWxc05
import Derived.Test.YtfjdceknbdmhpaaGreatDoorRows
import Derived.Lib.LaidU8
import Derived.Lib.LaidTab
import Derived.MakeChecks
set_option maxRecDepth 100000
set_option maxHeartbeats 32000000
namespace Go.Proofs.YtfjdceknbdmhpaaGreatDoor
open Go.RowKit Go.Lib
set_option linter.unusedSimpArgs false
set_option linter.unusedVariables false
attribute [local go_sem ↓] Go.wp_at_zero Go.wp_at_succ
theorem their_res {w4:World}{R:Nat}{a b c d e f:Value}{tmps:Array Value}(hR:Bn w4 R [a,b,c,d,e,f]) (ht:tmps.getD 2 undef=.pointer (some ⟨R,0,none⟩)):(results Tryz.f11 tmps).run Tryz.prog w4=.ok (.agg #[a,b,c,d,e,f]) w4:=by
 have ht':tmps[2]?.getD undef=.pointer (some ⟨R,0,none⟩):=by simpa using ht
 have c0:=(hR 0 _ rfl).1
 have c1:=(hR 1 _ rfl).1
 have c2:=(hR 2 _ rfl).1
 have c3:=(hR 3 _ rfl).1
 have c4:=(hR 4 _ rfl).1
 have c5:=(hR 5 _ rfl).1
 simp [results,Tryz.results11,go_sem,ht',c0,c1,c2,c3,c4,c5]
theorem theirs_ch {ok:Nat->Prop}{w:World}{d:Nat}{c:ChD d}{v:Value}(h:RdD ok w d c v) (hok:∀ t∈c.2.2.2,SmS d t) (hl1:totS d c.2.2.2<=400) (hl2:c.2.2.1.length<=3001) :
  Calls Tryz.prog 11 #[v] w fun e w'=>∃ u,e=.returned u/\RdC (fun b=>w.heap.size<=b) w' d (thC d c) u/\Below w.heap.size w w':=by
 obtain ⟨iv,hiv,hiv0,hiv1,hiv2⟩:=info_parts Tryz.infoVar
 obtain ⟨sv,ss,rfl,hv,hs⟩:=h
 obtain ⟨a,cap,rfl,hlc,hcm⟩:=hv.form
 obtain ⟨p4,p6,rfl,_⟩:=hs.form
 unfold maxLen at hcm
 have HV:=mkHid hv
 have hcall:=fun w1 (b1:Below w.heap.size w w1)=>ts_any d ok w1 c.2.2.2 _ (hs.stay (kp_stD d) (fun k hk hl=>⟨hk,b1.block k hl⟩)) hok hl1
 obtain ⟨nv,hnv⟩:∃ nv,sD c.1.1=.string nv:=⟨_,rfl⟩
 obtain ⟨n,hn⟩:∃ n,c.2.2.1.length=n:=⟨_,rfl⟩
 obtain ⟨i,hi⟩:∃ n,c.2.2.2.length=n:=⟨_,rfl⟩
 obtain ⟨vn,hvn⟩:∃ x,c.2.1=x:=⟨_,rfl⟩
 obtain ⟨ln,hln⟩:∃ x,c.1.2.1=x:=⟨_,rfl⟩
 obtain ⟨co,hco⟩:∃ x,c.1.2.2=x:=⟨_,rfl⟩
 rw [hnv,hvn,hln,hco,hi,hn]
 rw [hi] at hcall
 rw [hn] at hlc hl2
 have HN:Hid (c.2.2.1.length=n):=hn
 have HR:Hid (∀ (ok':Nat->Prop) (w':World) (a':Option Addr) (c':Nat) (b':Option Addr) (e':Nat),RdK ok' w' 4 (rVar ok' w') c.2.2.1 (.slice a' n c')->RdK ok' w' 11 (rSt d ok' w') (c.2.2.2.map (thS d)) (.slice b' i e')->RdC ok' w' d (thC d c) (.agg #[.string nv,.int .i64 vn,.int .i64 ln,.int .i64 co,.slice a' n c',.slice b' i e'])):=by
  intro ok' w' a' c' b' e' h1 h2
  refine ⟨_,_,?_,h1,h2⟩
  show _=Value.agg #[sV c.1.1,.int .i64 c.2.1,.int .i64 c.1.2.1,.int .i64 c.1.2.2,_,_]
  rw [show sV c.1.1=sD c.1.1 from rfl,hnv,hvn,hln,hco]
 have hcall2:∀ w1,Below w.heap.size w w1->Calls Tryz.prog 31 #[.slice p4 i p6] w1 fun e w'=>∃ iq ic,e=.returned (.slice iq i ic)/\RdK (fun b=>w1.heap.size<=b) w' 11 (rSt d (fun b=>w1.heap.size<=b) w') (c.2.2.2.map (thS d)) (.slice iq i ic)/\Below w1.heap.size w1 w':=fun w1 b1=>(hcall w1 b1).mono (fun e w' hh=>by
  obtain ⟨u,h1,h2,h3⟩:=hh
  obtain ⟨iq,ic,rfl,_⟩:=h2.form
  rw [List.length_map,hi] at h1 h2
  exact ⟨iq,ic,h1,h2,h3⟩)
 clear hcall hv hs hok hl1 hn hi hnv hvn hln hco
 have hal:Below w.heap.size w ((w.alloc (.cells #[.string nv,.int .i64 vn,.int .i64 ln,.int .i64 co,.slice a n cap,.slice p4 i p6] 27)).alloc (.cells #[.string ⟨#[]⟩,.int .i64 0,.int .i64 0,.int .i64 0,.slice none 0 0,.slice none 0 0] 33)):=((Below.refl w.heap.size w).alloc Nat.le.refl _).alloc (by simp) _
 have hX:Bn ((w.alloc (.cells #[.string nv,.int .i64 vn,.int .i64 ln,.int .i64 co,.slice a n cap,.slice p4 i p6] 27)).alloc (.cells #[.string ⟨#[]⟩,.int .i64 0,.int .i64 0,.int .i64 0,.slice none 0 0,.slice none 0 0] 33)) w.heap.size [.string nv,.int .i64 vn,.int .i64 ln,.int .i64 co,.slice a n cap,.slice p4 i p6]:=(Bn.new w [.string nv,.int .i64 vn,.int .i64 ln,.int .i64 co,.slice a n cap,.slice p4 i p6] 27 _ rfl).on ((Below.refl _ _).alloc Nat.le.refl _)
 have hR:Bn ((w.alloc (.cells #[.string nv,.int .i64 vn,.int .i64 ln,.int .i64 co,.slice a n cap,.slice p4 i p6] 27)).alloc (.cells #[.string ⟨#[]⟩,.int .i64 0,.int .i64 0,.int .i64 0,.slice none 0 0,.slice none 0 0] 33)) (w.heap.size+1) [.string ⟨#[]⟩,.int .i64 0,.int .i64 0,.int .i64 0,.slice none 0 0,.slice none 0 0]:=Bn.new (w.alloc (.cells #[.string nv,.int .i64 vn,.int .i64 ln,.int .i64 co,.slice a n cap,.slice p4 i p6] 27)) [.string ⟨#[]⟩,.int .i64 0,.int .i64 0,.int .i64 0,.slice none 0 0,.slice none 0 0] 33 _ (by simp)
 have hsz:((w.alloc (.cells #[.string nv,.int .i64 vn,.int .i64 ln,.int .i64 co,.slice a n cap,.slice p4 i p6] 27)).alloc (.cells #[.string ⟨#[]⟩,.int .i64 0,.int .i64 0,.int .i64 0,.slice none 0 0,.slice none 0 0] 33)).heap.size=w.heap.size+2:=by simp
 go_enter Tryz.func11,Tryz.ntmps11
 go_upto_region 1 with fail
 generalize ((w.alloc (.cells #[.string nv,.int .i64 vn,.int .i64 ln,.int .i64 co,.slice a n cap,.slice p4 i p6] 27)).alloc (.cells #[.string ⟨#[]⟩,.int .i64 0,.int .i64 0,.int .i64 0,.slice none 0 0,.slice none 0 0] 33))=wx at *
 obtain ⟨S,hS⟩:∃ S,w.heap.size=S:=⟨_,rfl⟩
 rw [hS] at hX hR hsz ⊢
 have HS:Hid (w.heap.size=S):=hS
 have hbx:Below w.heap.size w wx:=hal
 have hSw:w.heap.size<=S:=by omega
 clear hS hal
 go_cut [3] (fun u3 wc=>∃ Q iq ic,u3=.pointer (some ⟨Q,0,none⟩)/\S+2<=Q/\Bn wc Q [.string nv,.int .i64 vn,.int .i64 ln,.int .i64 co,.slice none 0 0,.slice iq i ic]/\RdK (fun k=>S+2<=k/\k≠Q) wc 11 (rSt d (fun k=>S+2<=k/\k≠Q) wc) (c.2.2.2.map (thS d)) (.slice iq i ic)/\Below (S+2) wx wc)
 case first=>
  have hbz:Below w.heap.size w (wx.alloc (.cells #[.string ⟨#[]⟩,.int .i64 0,.int .i64 0,.int .i64 0,.slice none 0 0,.slice none 0 0] 33)):=hbx.alloc hbx.size _
  have hZ0:Bn (wx.alloc (.cells #[.string ⟨#[]⟩,.int .i64 0,.int .i64 0,.int .i64 0,.slice none 0 0,.slice none 0 0] 33)) (S+2) [.string ⟨#[]⟩,.int .i64 0,.int .i64 0,.int .i64 0,.slice none 0 0,.slice none 0 0]:=Bn.new wx [.string ⟨#[]⟩,.int .i64 0,.int .i64 0,.int .i64 0,.slice none 0 0,.slice none 0 0] 33 _ hsz.symm
  have hzx:(wx.alloc (.cells #[.string ⟨#[]⟩,.int .i64 0,.int .i64 0,.int .i64 0,.slice none 0 0,.slice none 0 0] 33)).heap.size=S+3:=by simp;omega
  have n1:S≠S+2:=by omega
  have X0:=(hX 0 _ rfl).1
  have X1:=(hX 1 _ rfl).1
  have X2:=(hX 2 _ rfl).1
  have X3:=(hX 3 _ rfl).1
  have X5:=(hX 5 _ rfl).1
  clear HV HR hR
  go_region_held_law (fun w'=>w'.cell? ⟨S,0,none⟩=some (.string nv)/\w'.cell? ⟨S,1,none⟩=some (.int .i64 vn)/\w'.cell? ⟨S,2,none⟩=some (.int .i64 ln)/\w'.cell? ⟨S,3,none⟩=some (.int .i64 co)/\w'.cell? ⟨S,5,none⟩=some (.slice p4 i p6))
   (((refine ⟨?_,?_,?_,?_,?_⟩<;>(repeat (with_reducible first|exact X0|exact X1|exact X2|exact X3|exact X5|exact Y0|exact Y1|exact Y2|exact Y3|exact Y5|refine cell_al ?_|refine cell_dr ?_|refine cell_far4 (ne_pt n1) ?_|refine cell_far4 (ne_pt n2) ?_))<;>done)))
   (first
    | (go_at_call 31;(with_reducible refine (hcall2 _ hbx.drew).mono ?_);rintro e w1 ⟨iq,ic,rfl,hr1,b1⟩;have bw:Below wx.heap.size wx w1:=((Below.refl _ wx).drew).trans b1;have n2:S≠w1.heap.size:=(by have:=bw.size;omega);have kc:∀ p u,wx.cell? p=some u->w1.cell? p=some u:=fun p u hp=>(by rw [bw.cell (World.block_lt_of_cell? wx _ hp)];exact hp);have Y0:=kc _ _ X0;have Y1:=kc _ _ X1;have Y2:=kc _ _ X2;have Y3:=kc _ _ X3;have Y5:=kc _ _ X5)
    | (go_at_call 31;(with_reducible refine (hcall2 _ hbz.drew).mono ?_);rintro e w1 ⟨iq,ic,rfl,hr1,b1⟩;have bz:Below (wx.alloc (.cells #[.string ⟨#[]⟩,.int .i64 0,.int .i64 0,.int .i64 0,.slice none 0 0,.slice none 0 0] 33)).heap.size (wx.alloc (.cells #[.string ⟨#[]⟩,.int .i64 0,.int .i64 0,.int .i64 0,.slice none 0 0,.slice none 0 0] 33)) w1:=((Below.refl _ (wx.alloc (.cells #[.string ⟨#[]⟩,.int .i64 0,.int .i64 0,.int .i64 0,.slice none 0 0,.slice none 0 0] 33))).drew).trans b1;have bw:Below wx.heap.size wx w1:=((Below.refl wx.heap.size wx).alloc Nat.le.refl (.cells #[.string ⟨#[]⟩,.int .i64 0,.int .i64 0,.int .i64 0,.slice none 0 0,.slice none 0 0] 33)).trans (bz.mono (by rw [hsz,hzx];omega));have kc:∀ p u,wx.cell? p=some u->w1.cell? p=some u:=fun p u hp=>(by rw [bw.cell (World.block_lt_of_cell? wx _ hp)];exact hp);have Y0:=kc _ _ X0;have Y1:=kc _ _ X1;have Y2:=kc _ _ X2;have Y3:=kc _ _ X3;have Y5:=kc _ _ X5;have hZ:=hZ0.on bz;obtain ⟨z0,f0⟩:=hZ 0 _ rfl;obtain ⟨z1,f1⟩:=hZ 1 _ rfl;obtain ⟨z2,f2⟩:=hZ 2 _ rfl;obtain ⟨z3,f3⟩:=hZ 3 _ rfl;obtain ⟨z4,f4⟩:=hZ 4 _ rfl;obtain ⟨z5,f5⟩:=hZ 5 _ rfl)
    | fail)
  ·have bw2:Below (S+2) wx w1:=by rw [<- hsz];exact bw
   have hs1:S+2<=w1.heap.size:=by have:=bw.size;omega
   have hr2:=hr1.stay (kp_st d) (ok':=fun k=>S+2<=k/\k≠w1.heap.size) (w':=w1.alloc (.cells #[.string nv,.int .i64 vn,.int .i64 ln,.int .i64 co,.slice none 0 0,.slice iq i ic] 33)) (fun k hk hl=>⟨⟨by have hk':wx.heap.size<=k:=hk;omega,by omega⟩,((Below.refl w1.heap.size w1).alloc Nat.le.refl _).block k hl⟩)
   go_wp2
   go_meet
   case rel=>exact ⟨w1.heap.size,iq,ic,rfl,hs1,Bn.new w1 [.string nv,.int .i64 vn,.int .i64 ln,.int .i64 co,.slice none 0 0,.slice iq i ic] 33 _ rfl,hr2,bw2.alloc hs1 _⟩
  ·have bw2:Below (S+2) wx w1:=by rw [<- hsz];exact bw
   have hQ2:=((((((hZ.set (i:=0) (by simp) (.string nv)).set (i:=1) (by simp) (.int .i64 vn)).set (i:=2) (by simp) (.int .i64 ln)).set (i:=3) (by simp) (.int .i64 co)).set (i:=4) (by simp) (.slice none 0 0)).set (i:=5) (by simp) (.slice iq i ic))
   have hb2:=putL_below [.string nv,.int .i64 vn,.int .i64 ln,.int .i64 co,.slice none 0 0,.slice iq i ic] w1 (S+2) 0 bw2 Nat.le.refl
   have hr2:=hr1.stay (kp_st d) (ok':=fun k=>S+2<=k/\k≠S+2) (w':=putL w1 (S+2) 0 [.string nv,.int .i64 vn,.int .i64 ln,.int .i64 co,.slice none 0 0,.slice iq i ic]) (fun k hk hl=>⟨by have hk':(wx.alloc (.cells #[.string ⟨#[]⟩,.int .i64 0,.int .i64 0,.int .i64 0,.slice none 0 0,.slice none 0 0] 33)).heap.size<=k:=hk;omega,putL_heap _ _ _ _ _ (by have hk':(wx.alloc (.cells #[.string ⟨#[]⟩,.int .i64 0,.int .i64 0,.int .i64 0,.slice none 0 0,.slice none 0 0] 33)).heap.size<=k:=hk;omega)⟩)
   go_wp2
   go_meet
   case rel=>exact ⟨S+2,iq,ic,rfl,Nat.le_refl _,hQ2,hr2,hb2⟩
 case rest=>
  obtain ⟨Q,iq,ic,rfl,hQ,hQb,hQr,hbq⟩:=hcut
  have hXc:=hX.blk (hbq.block S (by omega))
  have hRc:=hR.blk (hbq.block (S+1) (by omega))
  have hbw:=hbx.trans (hbq.mono (by omega))
  obtain ⟨wk,hwk⟩:∃ x,x=wc:=⟨_,rfl⟩
  subst hwk
  have hql:Q < wk.heap.size:=hQb.lt
  have hws:=hXc.lt
  have hwr:=hRc.lt
  have x4:=(hXc 4 _ rfl).1
  go_wp2
  go_loopw [18] (fun ix wr=>∃ (j:Nat) (sl2:Value),j<=n/\ix=.int .i64 (j:Int)/\Bn wr Q [.string nv,.int .i64 vn,.int .i64 ln,.int .i64 co,sl2,.slice iq i ic]/\OwnB wr wk.heap.size (fun _=>False) 59 4 rVar sl2 (c.2.2.1.take j)/\Fx Q wk wr) (fun ix _=>n - (RowKit.intOf ix).toNat)
  case atStart=>exact ⟨0,_,Nat.zero_le _,rfl,hQb,ownB_nil _ _ _ _ _ _,Fx.refl _ _⟩
  case round=>
   clear x4
   obtain ⟨j,sl2,hj,rfl,hQB,hRow,hF⟩:=hrel
   obtain ⟨acj,hacj⟩:∃ acj,c.2.2.1.take j=acj:=⟨_,rfl⟩
   have hlj:acj.length=j:=by rw [<- hacj,List.length_take,HN.out];omega
   rw [hacj] at hRow
   have HACJ:Hid (c.2.2.1.take j=acj):=hacj
   clear hacj
   obtain ⟨ra,rc,rfl,hrl,hrm⟩:=hRow.form
   rw [hlj] at hRow hQB hrl
   have hXr:=hXc.fx hF (by omega)
   have hFs:=hF.size
   have hbr:Below w.heap.size w wr:=hF.bel hbw (by omega) Nat.le.refl
   by_cases hjl:j < n
   ·have hjt:j < c.2.2.1.length:=by rw [HN.out];exact hjl
    obtain ⟨b,off,rfl,hbl,hc⟩:=varQ_at (show RdK ok w 4 (rVar ok w) c.2.2.1 _ from HV.out) j hjt
    obtain ⟨q,hq⟩:∃ q,c.2.2.1[j]=q:=⟨_,rfl⟩
    rw [hq] at hc
    obtain ⟨sn,sv,sl,sc,hsv⟩:∃ sn sv sl sc,varV q=[.string sn,.int .i64 sv,.int .i64 sl,.int .i64 sc]:=⟨_,_,_,_,rfl⟩
    rw [hsv] at hc
    have hp:rVar (fun b=>wr.heap.size<=b) wr q [.string sn,.int .i64 sv,.int .i64 sl,.int .i64 sc]:=hsv.symm
    have HQ:Hid (c.2.2.1[j]=q):=hq
    clear hsv hq
    have C0:=(hbr.cell (p:=⟨b,off+j*4+0,none⟩) hbl).trans (hc 0 _ rfl)
    have C1:=(hbr.cell (p:=⟨b,off+j*4+1,none⟩) hbl).trans (hc 1 _ rfl)
    have C2:=(hbr.cell (p:=⟨b,off+j*4+2,none⟩) hbl).trans (hc 2 _ rfl)
    have C3:=(hbr.cell (p:=⟨b,off+j*4+3,none⟩) hbl).trans (hc 3 _ rfl)
    rw [Nat.add_zero] at C0
    clear hc
    have P4:=(hXr 4 _ rfl).1
    obtain ⟨k4,z4⟩:=hQB 4 _ rfl
    have i3:(j:Int) < (n:Int):=by omega
    have i4:(0:Int)<=(j:Int):=by omega
    have hali:=(Below.refl wr.heap.size wr).alloc Nat.le.refl (.cells #[.string sn,.int .i64 sv,.int .i64 sl,.int .i64 sc] 59)
    have hQa:=hQB.on hali
    obtain ⟨m4,o4⟩:=hQa 4 _ rfl
    go_upto_region 5 with fail
    go_region_law (first
     | (refine step_pushB wr.drew rfl _ _ 30 rfl wk.heap.size (fun _=>False) 59 iv (.agg #[.string ⟨#[]⟩,.int .i64 0,.int .i64 0,.int .i64 0]) 4 40 Tryz.underlying30 hiv hiv0 hiv1 hiv2 rfl kp_var (.slice ra j rc) acj q [.string sn,.int .i64 sv,.int .i64 sl,.int .i64 sc] wr.heap.size rfl rfl rfl (by simp [Value.oneCell']) hRow hp hFs (fun x hx=>(hRow.lt x hx).2) (fun b hb=>hb.elim) (by omega) (by unfold maxLen;omega) hFs ?_;intro vb wb hOb2 hgb2 hbb hat;have hBb:=hQB.blk (hbb.block _ hql);obtain ⟨m5,n5⟩:=hBb 4 _ rfl;obtain ⟨vba,vbc,hvb,hvbl,hvbm⟩:=hOb2.form;rw [List.length_append,List.length_singleton,hlj] at hvb;subst hvb)
     | fail)
    all_goals (
     have hBc:=hBb.set (i:=4) (by simp) (.slice vba (j+1) vbc)
     have hRc2:=hOb2.set kp_var (X:=Q) (i:=4) hql (.slice vba (j+1) vbc)
     have hFc:=((hF.drew).andD hbb Nat.le.refl).setX (i:=4) (.slice vba (j+1) vbc)
     have hac2:c.2.2.1.take (j+1)=acj++[q]:=by rw [List.take_succ_eq_append_getElem hjt,HACJ.out,HQ.out]
     clear hQa m4 o4 hali hgb2 hbb hat hBb m5 n5 hOb2 k4 z4 P4 C0 C1 C2 C3
     go_wp2
     go_roundw
     case rel=>exact ⟨j+1,_,hjl,by go_num,hBc,by rw [hac2];exact hRc2,hFc⟩
     case measure=>simp [RowKit.intOf];omega)
   ·have i3:¬ (j:Int) < (n:Int):=by omega
    have hjn:j=n:=by omega
    subst hjn
    have hfull:acj=c.2.2.1:=by rw [<- HACJ.out];exact List.take_of_length_le (by rw [HN.out];omega)
    have hRr:=hRc.fx hF (by omega)
    have hS2:=HS.out
    have hvars:=(hRow.rd kp_var).stay kp_var (ok':=fun b=>S+2<=b) (w':=putL wr (S+1) 0 [.string nv,.int .i64 vn,.int .i64 ln,.int .i64 co,.slice ra j rc,.slice iq i ic]) (fun b hb hl=>⟨by omega,putL_heap _ _ _ _ _ (by omega)⟩)
    rw [hfull] at hvars
    have hstates:=hQr.stay (kp_st d) (ok':=fun b=>S+2<=b) (w':=putL wr (S+1) 0 [.string nv,.int .i64 vn,.int .i64 ln,.int .i64 co,.slice ra j rc,.slice iq i ic]) (fun b hb hl=>⟨hb.1,(putL_heap _ _ _ _ _ (by omega)).trans (hF.block b hl (fun e=>hb.2 (Option.some.inj e)))⟩)
    have hfin:=HR.out _ _ _ _ _ _ (hvars.stay kp_var (ok':=fun b=>w.heap.size<=b) (fun b hb hl=>⟨by omega,rfl⟩)) (hstates.stay (kp_st d) (ok':=fun b=>w.heap.size<=b) (fun b hb hl=>⟨by omega,rfl⟩))
    have hbz:=putL_below [.string nv,.int .i64 vn,.int .i64 ln,.int .i64 co,.slice ra j rc,.slice iq i ic] wr (S+1) 0 hbr (by omega)
    clear hS2
    have t0:=(hQB 0 _ rfl).1
    obtain ⟨r0,f0⟩:=hRr 0 _ rfl
    have t1:=(hQB 1 _ rfl).1
    obtain ⟨r1,f1⟩:=hRr 1 _ rfl
    have t2:=(hQB 2 _ rfl).1
    obtain ⟨r2,f2⟩:=hRr 2 _ rfl
    have t3:=(hQB 3 _ rfl).1
    obtain ⟨r3,f3⟩:=hRr 3 _ rfl
    have t4:=(hQB 4 _ rfl).1
    obtain ⟨r4,f4⟩:=hRr 4 _ rfl
    have t5:=(hQB 5 _ rfl).1
    obtain ⟨r5,f5⟩:=hRr 5 _ rfl
    have hRz:=(((((hRr.set (i:=0) (by simp) (.string nv)).set (i:=1) (by simp) (.int .i64 vn)).set (i:=2) (by simp) (.int .i64 ln)).set (i:=3) (by simp) (.int .i64 co)).set (i:=4) (by simp) (.slice ra j rc)).set (i:=5) (by simp) (.slice iq i ic)
    go_wp2
    exact bodyPost_ret (their_res hRz rfl) rfl ⟨_,rfl,hfin,hbz⟩
theorem smx_ok {x:Sx}(h:SmX x):ExOk (clX x)/\cntX (clX x)<=1000:=by
 obtain ⟨h1,h2⟩:=small_cln (d:=x.1) (t:=x.2) h
 have h3:cntX (clX x)<=1000:=h1
 exact ⟨⟨cl_cln x.1 x.2,by omega,h2⟩,h3⟩
theorem isIf_ne {v:Value}(h:isIf v=true):v≠.nilIface:=fun e=>by rw [e] at h;exact absurd h (by decide)
theorem thO_k {o:OnC}(h:OnS o):OnK (thO o):=by
 obtain ⟨h1,h2,h3,h4,h5⟩:=h
 refine ⟨by show o.1.length<=_;omega,by show o.2.2.1.length<=_;omega,fun hg=>?_,fun s hs=>?_⟩
 ·have hg2:(o.2.1.1 && isIf (exX o.2.1.2))=true:=hg
  rw [Bool.and_eq_true] at hg2
  obtain ⟨q1,q2⟩:=smx_ok h3
  exact ⟨q1,q2,by show exX (clX o.2.1.2)≠_;rw [exX_cl];exact isIf_ne hg2.2⟩
 ·obtain ⟨s',hs',rfl⟩:=List.mem_map.1 (show s∈o.2.2.2.1.map thT from hs)
  obtain ⟨q1,q2⟩:=h5 s' hs'
  obtain ⟨q3,q4⟩:=smx_ok q2
  exact ⟨⟨by show s'.1.length<=_;omega,q3⟩,q4⟩
theorem thO_ok {o:OnC}(h:OnS o):OnOk (thO o):=by
 obtain ⟨k1,k2,k3,k4⟩:=thO_k h
 exact ⟨k1,k2,fun hg=>(k3 hg).1,fun s hs=>(k4 s hs).1,by show (o.2.2.2.1.map thT).length<=_;rw [List.length_map];have:=h.2.2.2.1;omega⟩
theorem thO_cl (o:OnC):OnCl (thO o):=⟨fun _=>cl_cln _ _,fun s hs=>by
 obtain ⟨s',hs',rfl⟩:=List.mem_map.1 (show s∈o.2.2.2.1.map thT from hs)
 exact cl_cln _ _⟩
theorem thS_k:∀ (d:Nat) (t:St d),SmS d t->StK d (thS d t)
 | 0,t,_=>Empty.elim t
 | d+1,t,h=>by
  obtain ⟨⟨h1,h2,h3,h4,h5⟩,h6⟩:=h
  refine ⟨⟨by show t.1.1.1.length<=_;omega,by show t.1.2.2.1.1.length<=_;omega,by show t.1.2.2.1.2.length<=_;omega,fun o ho=>?_⟩,fun x hx=>?_⟩
  ·obtain ⟨o',ho',rfl⟩:=List.mem_map.1 (show o∈t.1.2.2.2.2.map thO from ho)
   exact thO_k (h5 o' ho')
  ·obtain ⟨x',hx',rfl⟩:=List.mem_map.1 (show x∈t.2.map (thS d) from hx)
   exact thS_k d x' (h6 x' hx')
theorem thS_cl:∀ (d:Nat) (t:St d),StCl d (thS d t)
 | 0,t=>Empty.elim t
 | d+1,t=>⟨fun o ho=>by
   obtain ⟨o',ho',rfl⟩:=List.mem_map.1 (show o∈t.1.2.2.2.2.map thO from ho)
   exact thO_cl o',fun x hx=>by
   obtain ⟨x',hx',rfl⟩:=List.mem_map.1 (show x∈t.2.map (thS d) from hx)
   exact thS_cl d x'⟩
theorem thS_ok:∀ (d:Nat) (t:St d),SmS d t->totS d [t]<=400->StOk d (thS d t)
 | 0,t,_,_=>Empty.elim t
 | d+1,t,h,ht=>by
  obtain ⟨⟨h1,h2,h3,h4,h5⟩,h6⟩:=h
  have ht2:totS d t.2<=400:=by
   have e:totS (d+1) [t]=(1+totS d t.2)+0:=rfl
   omega
  refine ⟨⟨by show t.1.1.1.length<=_;omega,by show t.1.2.2.1.1.length<=_;omega,by show t.1.2.2.1.2.length<=_;omega,by show (t.1.2.2.2.2.map thO).length<=_;rw [List.length_map];omega,fun o ho=>?_⟩,?_,fun x hx=>?_⟩
  ·obtain ⟨o',ho',rfl⟩:=List.mem_map.1 (show o∈t.1.2.2.2.2.map thO from ho)
   exact thO_ok (h5 o' ho')
  ·show (t.2.map (thS d)).length<=_
   rw [List.length_map]
   match d,t.2,ht2 with
   | 0,[],_=>simp
   | 0,x :: _,_=>exact Empty.elim x
   | d+1,l,hl=>have:=tot_len l;omega
  ·obtain ⟨x',hx',rfl⟩:=List.mem_map.1 (show x∈t.2.map (thS d) from hx)
   refine thS_ok d x' (h6 x' hx') ?_
   match d,t.2,x',hx',ht2 with
   | 0,_,x',_,_=>exact Empty.elim x'
   | d+1,l,x',hx',hl=>
    have e:∀ (l:List (St (d+1))) (y:St (d+1)),y∈l->totS (d+1) [y]<=totS (d+1) l:=fun l=>by
     induction l with
     | nil=>intro y hy;cases hy
     | cons z r ih=>
      intro y hy
      have e1:totS (d+1) (z :: r)=(1+totS d z.2)+totS (d+1) r:=rfl
      have e2:totS (d+1) [y]=(1+totS d y.2)+0:=rfl
      rcases List.mem_cons.1 hy with rfl|hy
      ·omega
      ·have:=ih y hy;omega
    have:=e l x' hx'
    omega
theorem sz_tot:∀ (d:Nat) (l:List (St d)),szL d (l.map (thS d))<=totS d l+1
 | 0,l=>Nat.le_refl _
 | d+1,l=>by
  show ((l.map (thS (d+1))).map (fun t:St (d+1)=>szL d t.2)).sum+1<=(l.map (fun t:St (d+1)=>1+totS d t.2)).sum+1
  rw [List.map_map]
  induction l with
  | nil=>simp
  | cons x r ih=>
   rw [List.map_cons,List.map_cons,List.sum_cons,List.sum_cons]
   have h1:=sz_tot d x.2
   have h2:((fun t:St (d+1)=>szL d t.2) ∘ thS (d+1)) x=szL d (x.2.map (thS d)):=rfl
   omega
theorem tot_one:∀ {d:Nat}{l:List (St d)}{t:St d},t∈l->totS d [t]<=totS d l
 | 0,_,t,_=>Empty.elim t
 | d+1,z :: r,t,h=>by
  have e1:totS (d+1) (z :: r)=(1+totS d z.2)+totS (d+1) r:=rfl
  have e2:totS (d+1) [t]=(1+totS d t.2)+0:=rfl
  rcases List.mem_cons.1 h with rfl|h
  ·omega
  ·have:=tot_one h;omega
theorem chK_th {d:Nat}{c:ChD d}(h:SmCh d c) (hw:WfC d c):ChK d (thC d c):=by
 obtain ⟨h1,h2,h3,h4⟩:=h
 refine ⟨by show c.1.1.length<=_;omega,fun x hx=>hw.2.1 x hx,fun t ht=>?_⟩
 obtain ⟨t',ht',rfl⟩:=List.mem_map.1 (show t∈c.2.2.2.map (thS d) from ht)
 exact thS_k d t' (h4 t' ht')
theorem chCl_th {d:Nat}(c:ChD d):∀ t∈(thC d c).2.2.2,StCl d t:=fun t ht=>by
 obtain ⟨t',ht',rfl⟩:=List.mem_map.1 (show t∈c.2.2.2.map (thS d) from ht)
 exact thS_cl d t'
theorem tot_length:∀ {d:Nat}(l:List (St d)),l.length<=totS d l
 | 0,[]=>Nat.le_refl _
 | 0,x :: _=>Empty.elim x
 | d+1,l=>tot_len l
theorem chOk_th {d:Nat}{c:ChD d}(h:SmCh d c) (hw:WfC d c):ChOk d (thC d c):=by
 obtain ⟨h1,h2,h3,h4⟩:=h
 refine ⟨by show c.1.1.length<=_;omega,by show c.2.2.1.length<=_;omega,fun x hx=>hw.2.1 x hx,⟨?_,fun t ht=>?_⟩,?_⟩
 ·show (c.2.2.2.map (thS d)).length<=_
  rw [List.length_map]
  have:=tot_length c.2.2.2
  omega
 ·obtain ⟨t',ht',rfl⟩:=List.mem_map.1 (show t∈c.2.2.2.map (thS d) from ht)
  exact thS_ok d t' (h4 t' ht') (Nat.le_trans (tot_one ht') h3)
 ·show szL d (c.2.2.2.map (thS d))<=_
  have:=sz_tot d c.2.2.2
  omega
theorem rdD_let {ok:Nat->Prop}{w:World}{d:Nat}{c:ChD d}{v:Value}(h:RdD ok w d c v):∃ a b e f g h' i j k l,v=.agg #[.string a,.int .i64 b,.int .i64 e,.int .i64 f,.slice g h' i,.slice j k l]:=by
 obtain ⟨sv,ss,rfl,h1,h2⟩:=h
 obtain ⟨a,cap,rfl,_⟩:=h1.form
 obtain ⟨a',cap',rfl,_⟩:=h2.form
 exact ⟨_,_,_,_,_,_,_,_,_,_,rfl⟩
theorem prG_err {d:Nat}{c:ChX d}(h:(prG d c).2≠0):(prG d c).1=[]:=by
 unfold prG at h ⊢
 split
 ·next h1=>
  rw [if_pos h1] at h
  split
  ·next h2=>rw [if_pos h2] at h;exact absurd rfl h
  ·rfl
 ·rfl
theorem prG_ok {d:Nat}{c:ChX d}(h:(prG d c).2=0):chF d c=true/\((txQ (chQ d c)).length<=12000/\(tkQ (chQ d c)).length<=3000)/\(prG d c).1=txQ (chQ d c):=by
 unfold prG at h ⊢
 by_cases h1:chF d c=true
 ·rw [if_pos h1] at h ⊢
  by_cases h2:(txQ (chQ d c)).length<=12000/\(tkQ (chQ d c)).length<=3000
  ·rw [if_pos h2];exact ⟨h1,h2,rfl⟩
  ·rw [if_neg h2] at h;exact absurd h (by decide)
 ·rw [if_neg h1] at h;exact absurd h (by decide)
theorem showBack_walk {w:World}(hPw:Pow w) (hE:Esy w) {d:Nat}{c:ChD d}{v:Value}(hr:RdD (fun _=>True) w d c v) (hwf:WfC d c):Calls Tryz.prog 5 #[v] w fun e w'=>e=.returned (.bool true)/\Below w.heap.size w w':=by
 obtain ⟨g0,g1,g2,g3,g4,g5,g6,g7,g8,g9,rfl⟩:=rdD_let hr
 have h1:=fun w1 (b:Below w.heap.size w w1)=>awakeS w1 (hPw.below b)
 have hal:Below w.heap.size w (w.alloc (.cells #[.string g0,.int .i64 g1,.int .i64 g2,.int .i64 g3,.slice g4 g5 g6,.slice g7 g8 g9] 27)):=(Below.refl w.heap.size w).alloc Nat.le.refl _
 have hX:Bn (w.alloc (.cells #[.string g0,.int .i64 g1,.int .i64 g2,.int .i64 g3,.slice g4 g5 g6,.slice g7 g8 g9] 27)) w.heap.size [.string g0,.int .i64 g1,.int .i64 g2,.int .i64 g3,.slice g4 g5 g6,.slice g7 g8 g9]:=Bn.new w [.string g0,.int .i64 g1,.int .i64 g2,.int .i64 g3,.slice g4 g5 g6,.slice g7 g8 g9] 27 _ rfl
 have h2:=fun w1 (b:Below w.heap.size w w1)=>small_any (hr.keep (ok':=fun _=>True) (fun k hk hl=>⟨trivial,b.block k hl⟩)) hwf (w:=w1)
 go_enter Tryz.func5,Tryz.ntmps5
 go_upto_region 1 with fail
 generalize (w.alloc (.cells #[.string g0,.int .i64 g1,.int .i64 g2,.int .i64 g3,.slice g4 g5 g6,.slice g7 g8 g9] 27))=wx at *
 have x0:=(hX 0 _ rfl).1
 have x1:=(hX 1 _ rfl).1
 have x2:=(hX 2 _ rfl).1
 have x3:=(hX 3 _ rfl).1
 have x4:=(hX 4 _ rfl).1
 have x5:=(hX 5 _ rfl).1
 have h1a:=h1 _ hal
 go_upto_if 14 with (first
  | (go_at_call 18;refine h1a.mono ?_;rintro e w1 ⟨rfl,b1⟩;have x0:=(b1.cell (p:=⟨w.heap.size,0,none⟩) hX.lt).trans x0;have x1:=(b1.cell (p:=⟨w.heap.size,1,none⟩) hX.lt).trans x1;have x2:=(b1.cell (p:=⟨w.heap.size,2,none⟩) hX.lt).trans x2;have x3:=(b1.cell (p:=⟨w.heap.size,3,none⟩) hX.lt).trans x3;have x4:=(b1.cell (p:=⟨w.heap.size,4,none⟩) hX.lt).trans x4;have x5:=(b1.cell (p:=⟨w.heap.size,5,none⟩) hX.lt).trans x5)
  | (go_at_call 10;refine (h2 _ (hal.trans (b1.mono hal.size))).mono ?_;rintro e w2 ⟨bb,rfl,hsm,b2⟩)
  | fail)
 have hb1:=hal.trans (b1.mono hal.size)
 have hb2:=hb1.trans (b2.mono hb1.size)
 have hX2:=(hX.on b1).on b2
 clear b1 b2 hX hal h2 h1a hb1 x0 x1 x2 x3 x4 x5
 cases bb with
 | false=>
  have h1b:=h1 _ hb2
  go_wp2_with (first
   | (go_at_call 18;refine h1b.mono ?_;rintro e w3 ⟨rfl,b3⟩)
   | fail)
  go_ret
  exact ⟨rfl,hb2.trans (b3.mono hb2.size)⟩
 | true=>
  replace hsm:=hsm rfl
  have hck:=chK_th hsm hwf
  have hcl:=chCl_th c
  have hok:=chOk_th hsm hwf
  obtain ⟨C,hC⟩:∃ C,thC d c=C:=⟨_,rfl⟩
  rw [hC] at hck hcl hok
  have h3:∀ w1,Below w.heap.size w w1->Calls Tryz.prog 11 #[.agg #[.string g0,.int .i64 g1,.int .i64 g2,.int .i64 g3,.slice g4 g5 g6,.slice g7 g8 g9]] w1 fun e w'=>∃ e0 e1 e2 e3 e4 e5 e6 e7 e8 e9,e=.returned (.agg #[.string e0,.int .i64 e1,.int .i64 e2,.int .i64 e3,.slice e4 e5 e6,.slice e7 e8 e9])/\RdC (fun b=>w1.heap.size<=b) w' d C (.agg #[.string e0,.int .i64 e1,.int .i64 e2,.int .i64 e3,.slice e4 e5 e6,.slice e7 e8 e9])/\Below w1.heap.size w1 w':=fun w1 bb=>(theirs_ch (hr.keep (ok':=fun _=>True) (fun k hk hl=>⟨trivial,bb.block k hl⟩)) hsm.2.2.2 hsm.2.2.1 (by have:=hsm.2.1;omega) (w:=w1)).mono (fun e w' hh=>by
   obtain ⟨u,q1,q2,q3⟩:=hh
   rw [hC] at q2
   obtain ⟨e0,e1,e2,e3,e4,e5,e6,e7,e8,e9,rfl⟩:=rdC_formB q2
   exact ⟨e0,e1,e2,e3,e4,e5,e6,e7,e8,e9,q1,q2,q3⟩)
  have h4:=fun (ok:Nat->Prop) w1 v (h:RdC ok w1 d C v) (hp:Pow w1)=>printC_any h hck hcl hp
  have h5:=fun (ok:Nat->Prop) w1 v (h:RdC ok w1 d C v)=>strip_any h hok
  obtain ⟨T,hT,eT,zT⟩:=letter_of (prG d C).1
  obtain ⟨pe,hpe⟩:∃ x,(prG d C).2=x:=⟨_,rfl⟩
  simp only [hT,hpe] at h4
  have x0:=(hX2 0 _ rfl).1
  have x1:=(hX2 1 _ rfl).1
  have x2:=(hX2 2 _ rfl).1
  have x3:=(hX2 3 _ rfl).1
  have x4:=(hX2 4 _ rfl).1
  have x5:=(hX2 5 _ rfl).1
  by_cases hz:pe=0
  ·subst hz
   obtain ⟨hcf,hsh,etx⟩:=prG_ok hpe
   rw [etx] at eT zT
   obtain ⟨C',hrd,hak⟩:=read_printed hcf hcl hsh.1 hsh.2
   have hok':=read_chok (txQ (chQ d C))
   rw [hrd] at hok'
   have h6:=fun w1 (b:Below w.heap.size w w1)=>readP_any T w1 (hE.on b) (by have:=hsh.1;omega)
   rw [eT,hrd] at h6
   have h7:=fun (ok:Nat->Prop) w1 v (h:RdC ok w1 7 C' v)=>strip_any h hok'
   obtain ⟨G,hG⟩:∃ G,stG 7 C'=G:=⟨_,rfl⟩
   have h8:=fun (ok ok':Nat->Prop) w1 v v' (h:RdC ok w1 7 G v) (h':RdC ok' w1 7 G v')=>same_any h h' (hG ▸ chok_st hok')
   have h5':∀ (ok:Nat->Prop) w1 v,RdC ok w1 d C v->Calls Tryz.prog 16 #[v] w1 fun e w'=>∃ u,e=.returned u/\RdC (fun b=>w1.heap.size<=b) w' 7 G u/\Below w1.heap.size w1 w':=fun ok w1 v h=>(h5 ok w1 v h).mono (fun e w' hh=>by
    obtain ⟨u,q1,q2,q3⟩:=hh
    exact ⟨u,q1,hG ▸ rd_alike hak q2,q3⟩)
   rw [hG] at h7
   clear h5 hak hG hok hok' hrd hsh hck hcl hcf hT eT zT etx hpe hC
   go_upto_region 4 with (first
    | (go_at_call 11;refine (h3 _ hb2).mono ?_;rintro e w3 ⟨e0,e1,e2,e3,e4,e5,e6,e7,e8,e9,rfl,hr3,b3⟩;have hb3:=hb2.trans (b3.mono hb2.size))
    | (go_at_call 19;refine (h4 _ _ _ hr3 (hPw.below hb3)).mono ?_;rintro e w4 ⟨rfl,b4⟩)
    | fail)
   have hb4:=hb3.trans (b4.mono hb3.size)
   have hX4:=(hX2.on b3).on b4
   clear hr3 h4 hX2 b3 b4 hb3 hb2 x0 x1 x2 x3 x4 x5
   go_upto_region 7 with (first
    | (go_at_call 23;refine (h6 _ hb4).mono ?_;rintro e w4b ⟨v4,rfl,hr4,b4⟩;obtain ⟨d0,d1,d2,d3,d4,d5,d6,d7,d8,d9,rfl⟩:=rdC_formB hr4))
   have hb4b:=hb4.trans (b4.mono hb4.size)
   have hX4b:=hX4.on b4
   have hal:=((Below.refl w4b.heap.size w4b).alloc Nat.le.refl (.cells #[.string d0,.int .i64 d1,.int .i64 d2,.int .i64 d3,.slice d4 d5 d6,.slice d7 d8 d9] 33)).alloc (by simp) (.cells #[.int .i64 0,.int .i64 0] 23)
   have hB:Bn ((w4b.alloc (.cells #[.string d0,.int .i64 d1,.int .i64 d2,.int .i64 d3,.slice d4 d5 d6,.slice d7 d8 d9] 33)).alloc (.cells #[.int .i64 0,.int .i64 0] 23)) w4b.heap.size [.string d0,.int .i64 d1,.int .i64 d2,.int .i64 d3,.slice d4 d5 d6,.slice d7 d8 d9]:=(Bn.new w4b [.string d0,.int .i64 d1,.int .i64 d2,.int .i64 d3,.slice d4 d5 d6,.slice d7 d8 d9] 33 _ rfl).on ((Below.refl _ _).alloc Nat.le.refl _)
   have hr5:=hr4.keep (fun b hb hl=>⟨hb,hal.block b hl⟩)
   have hb5:=hb4b.trans (hal.mono hb4b.size)
   have hX5:=hX4b.on hal
   clear hr4 b4 hb4 hal h6 hX4 hX4b hb4b
   generalize ((w4b.alloc (.cells #[.string d0,.int .i64 d1,.int .i64 d2,.int .i64 d3,.slice d4 d5 d6,.slice d7 d8 d9] 33)).alloc (.cells #[.int .i64 0,.int .i64 0] 23))=w5 at *
   obtain ⟨XB,hXB⟩:∃ x,w4b.heap.size=x:=⟨_,rfl⟩
   rw [hXB] at hB ⊢
   clear hXB
   obtain ⟨XA,hXA⟩:∃ x,w.heap.size=x:=⟨_,rfl⟩
   rw [hXA] at hX5 ⊢
   have HXA:=mkHid hXA
   clear hXA
   have hB0:Below w5.heap.size w5 w5:=Below.refl _ _
   have lA:=hX5.lt
   have lB:=hB.lt
   have a0:=(hX5 0 _ rfl).1
   have b0:=(hB 0 _ rfl).1
   have a1:=(hX5 1 _ rfl).1
   have b1:=(hB 1 _ rfl).1
   have a2:=(hX5 2 _ rfl).1
   have b2:=(hB 2 _ rfl).1
   have a3:=(hX5 3 _ rfl).1
   have b3:=(hB 3 _ rfl).1
   have a4:=(hX5 4 _ rfl).1
   have b4:=(hB 4 _ rfl).1
   have a5:=(hX5 5 _ rfl).1
   have b5:=(hB 5 _ rfl).1
   have gA:∀ w1,Below w5.heap.size w5 w1->Calls Tryz.prog 11 #[.agg #[.string g0,.int .i64 g1,.int .i64 g2,.int .i64 g3,.slice g4 g5 g6,.slice g7 g8 g9]] w1 fun e w'=>∃ e0 e1 e2 e3 e4 e5 e6 e7 e8 e9,e=.returned (.agg #[.string e0,.int .i64 e1,.int .i64 e2,.int .i64 e3,.slice e4 e5 e6,.slice e7 e8 e9])/\RdC (fun b=>w1.heap.size<=b) w' d C (.agg #[.string e0,.int .i64 e1,.int .i64 e2,.int .i64 e3,.slice e4 e5 e6,.slice e7 e8 e9])/\Below w1.heap.size w1 w':=fun w1 bb=>h3 w1 (hb5.trans (bb.mono hb5.size))
   have gC:∀ w1,Below w5.heap.size w5 w1->Calls Tryz.prog 16 #[.agg #[.string d0,.int .i64 d1,.int .i64 d2,.int .i64 d3,.slice d4 d5 d6,.slice d7 d8 d9]] w1 fun e w'=>∃ e0 e1 e2 e3 e4 e5 e6 e7 e8 e9,e=.returned (.agg #[.string e0,.int .i64 e1,.int .i64 e2,.int .i64 e3,.slice e4 e5 e6,.slice e7 e8 e9])/\RdC (fun b=>w1.heap.size<=b) w' 7 G (.agg #[.string e0,.int .i64 e1,.int .i64 e2,.int .i64 e3,.slice e4 e5 e6,.slice e7 e8 e9])/\Below w1.heap.size w1 w':=fun w1 bb=>(h7 _ w1 _ (hr5.keep (ok':=fun _=>True) (fun b hb hl=>⟨trivial,bb.block b hl⟩))).mono (fun e w' hh=>by
    obtain ⟨u,h1,h2,h3⟩:=hh
    obtain ⟨e0,e1,e2,e3,e4,e5,e6,e7,e8,e9,rfl⟩:=rdC_formB h2
    exact ⟨e0,e1,e2,e3,e4,e5,e6,e7,e8,e9,h1,h2,h3⟩)
   have gB:∀ (ok:Nat->Prop) w1 k0 k1 k2 k3 k4 k5 k6 k7 k8 k9,RdC ok w1 d C (.agg #[.string k0,.int .i64 k1,.int .i64 k2,.int .i64 k3,.slice k4 k5 k6,.slice k7 k8 k9])->Calls Tryz.prog 16 #[.agg #[.string k0,.int .i64 k1,.int .i64 k2,.int .i64 k3,.slice k4 k5 k6,.slice k7 k8 k9]] w1 fun e w'=>∃ e0 e1 e2 e3 e4 e5 e6 e7 e8 e9,e=.returned (.agg #[.string e0,.int .i64 e1,.int .i64 e2,.int .i64 e3,.slice e4 e5 e6,.slice e7 e8 e9])/\RdC (fun b=>w1.heap.size<=b) w' 7 G (.agg #[.string e0,.int .i64 e1,.int .i64 e2,.int .i64 e3,.slice e4 e5 e6,.slice e7 e8 e9])/\Below w1.heap.size w1 w':=fun ok w1 k0 k1 k2 k3 k4 k5 k6 k7 k8 k9 hk=>(h5' ok w1 _ hk).mono (fun e w' hh=>by
    obtain ⟨u,h1,h2,h3⟩:=hh
    obtain ⟨e0,e1,e2,e3,e4,e5,e6,e7,e8,e9,rfl⟩:=rdC_formB h2
    exact ⟨e0,e1,e2,e3,e4,e5,e6,e7,e8,e9,h1,h2,h3⟩)
   clear h3 h5' h7 hr5 hX5 hB hE hr
   go_region_held_law (fun w'=>w'.cell? ⟨XA,0,none⟩=some (.string g0)/\w'.cell? ⟨XA,1,none⟩=some (.int .i64 g1)/\w'.cell? ⟨XA,2,none⟩=some (.int .i64 g2)/\w'.cell? ⟨XA,3,none⟩=some (.int .i64 g3)/\w'.cell? ⟨XA,4,none⟩=some (.slice g4 g5 g6)/\w'.cell? ⟨XA,5,none⟩=some (.slice g7 g8 g9)/\w'.cell? ⟨XB,0,none⟩=some (.string d0)/\w'.cell? ⟨XB,1,none⟩=some (.int .i64 d1)/\w'.cell? ⟨XB,2,none⟩=some (.int .i64 d2)/\w'.cell? ⟨XB,3,none⟩=some (.int .i64 d3)/\w'.cell? ⟨XB,4,none⟩=some (.slice d4 d5 d6)/\w'.cell? ⟨XB,5,none⟩=some (.slice d7 d8 d9))
    (exact ⟨(hB0.cell (p:=⟨XA,0,none⟩) lA).trans a0,(hB0.cell (p:=⟨XA,1,none⟩) lA).trans a1,(hB0.cell (p:=⟨XA,2,none⟩) lA).trans a2,(hB0.cell (p:=⟨XA,3,none⟩) lA).trans a3,(hB0.cell (p:=⟨XA,4,none⟩) lA).trans a4,(hB0.cell (p:=⟨XA,5,none⟩) lA).trans a5,(hB0.cell (p:=⟨XB,0,none⟩) lB).trans b0,(hB0.cell (p:=⟨XB,1,none⟩) lB).trans b1,(hB0.cell (p:=⟨XB,2,none⟩) lB).trans b2,(hB0.cell (p:=⟨XB,3,none⟩) lB).trans b3,(hB0.cell (p:=⟨XB,4,none⟩) lB).trans b4,(hB0.cell (p:=⟨XB,5,none⟩) lB).trans b5⟩)
    (first
     | (go_at_call 12;(first|(with_reducible refine (h8 _ _ _ _ _ hrB hrA).mono ?_)|(with_reducible refine (h8 _ _ _ _ _ (hrB.keep (ok':=fun _=>True) (fun b hb hl=>⟨trivial,rfl⟩)) (hrA.keep (ok':=fun _=>True) (fun b hb hl=>⟨trivial,rfl⟩))).mono ?_));rintro e w7 ⟨rfl,bb⟩;(first|have hB0:=Below.nxd hB0 bb|have hB0:=Below.nx hB0 bb))
     | (go_at_call 11;(with_reducible first|refine (gA _ hB0).mono ?_|refine (gA _ hB0.drew).mono ?_);rintro e w6 ⟨e0,e1,e2,e3,e4,e5,e6,e7,e8,e9,rfl,hrT,bb⟩;(try have hrB:=hrB.keep (w':=w6) (ok':=fun _=>True) (fun b hb hl=>⟨trivial,bb.block b hl⟩));(first|have hB0:=Below.nxd hB0 bb|have hB0:=Below.nx hB0 bb))
     | (go_at_call 16;(with_reducible first|refine (gC _ hB0).mono ?_|refine (gC _ hB0.drew).mono ?_);rintro e w6 ⟨f0,f1,f2,f3,f4,f5,f6,f7,f8,f9,rfl,hrB,bb⟩;(try have hrT:=hrT.keep (w':=w6) (ok':=fun _=>True) (fun b hb hl=>⟨trivial,bb.block b hl⟩));(first|have hB0:=Below.nxd hB0 bb|have hB0:=Below.nx hB0 bb))
     | (go_at_call 16;(first|(with_reducible refine (gB _ _ _ _ _ _ _ _ _ _ _ _ hrT).mono ?_)|(with_reducible refine (gB _ _ _ _ _ _ _ _ _ _ _ _ (hrT.keep (ok':=fun _=>True) (fun b hb hl=>⟨trivial,rfl⟩))).mono ?_));rintro e w6 ⟨k0,k1,k2,k3,k4,k5,k6,k7,k8,k9,rfl,hrA,bb⟩;(try have hrB:=hrB.keep (w':=w6) (ok':=fun _=>True) (fun b hb hl=>⟨trivial,bb.block b hl⟩));(first|have hB0:=Below.nxd hB0 bb|have hB0:=Below.nx hB0 bb))
     | fail)
   all_goals (
    go_wp2
    go_ret
    exact ⟨rfl,hb5.trans (hB0.mono hb5.size)⟩)
  ·have hT0:T=⟨#[]⟩:=by rw [<- hT,prG_err (by rw [hpe];exact hz)]
   subst hT0
   have hz2:(pe == 0)=false:=by simpa using hz
   clear hT eT zT hpe h5 hok hck hcl hC
   go_wp2_with (first
    | (go_at_call 11;refine (h3 _ hb2).mono ?_;rintro e w3 ⟨e0,e1,e2,e3,e4,e5,e6,e7,e8,e9,rfl,hr3,b3⟩;have hb3:=hb2.trans (b3.mono hb2.size))
    | (go_at_call 19;refine (h4 _ _ _ hr3 (hPw.below hb3)).mono ?_;rintro e w4 ⟨rfl,b4⟩)
    | fail)
   go_ret
   exact ⟨rfl,hb3.trans (b4.mono hb3.size)⟩
end Go.Proofs.YtfjdceknbdmhpaaGreatDoor
namespace Go.Proofs.YtfjdceknbdmhpaaGreatDoor
open Go.ChangeShapes Go.WideShapes Go.ChangeAt Go.RowKit
end Go.Proofs.YtfjdceknbdmhpaaGreatDoor
namespace Go.Proofs.YtfjdceknbdmhpaaGreatDoor
open Go.RowKit Go.Lib
set_option linter.unusedSimpArgs false
set_option linter.unusedVariables false
attribute [local go_sem ↓] Go.wp_at_zero Go.wp_at_succ
theorem pow_of {w:World}{L:List (String × DataW Unit)}(h:laidMetH Tryz.prog L w) (hp:(L.all fun x=>x.2.handleName?.isNone)=true) (m:("internal/strconv.uint64pow10",Rows.laid_internal_strconv_uint64pow10)∈L):Pow w:=by
 rw [MakeChecks.laidMetH_plain _ _ _ hp] at h
 have h1:=Lib.laidMet.reads h m
 have d1:(Rows.laid_internal_strconv_uint64pow10:DataW Unit)=Lib.tabData .u64 Lib.pow10Tab:=by kernel_rfl
 rw [d1] at h1
 obtain ⟨g,t,cs,fuel,p,hg,ht,hvar,hd⟩:=h1
 have hg2:((Tryz.prog.globalNamed "internal/strconv.uint64pow10").bind fun g=>(Tryz.prog.globals[g]?).map (·.type))=some 252:=by kernel_rfl
 rw [hg,Option.bind_some,ht] at hg2
 obtain rfl:=Option.some.inj hg2
 unfold Pow Lib.TabIs
 rw [hvar,<- cells_of_tab Tryz.underlying252 Tryz.underlying212 (by kernel_rfl) (by kernel_rfl) hd]
theorem iface_of {P:Program}{w:World}{t:TypeId}{fuel:Nat}{cs:List Value}{name:String}{d:DataW Unit}{p:List MemPlace}(ht:(P.underlying t).map (fun u=>match u with | .interface _=>true|_=>false)=some true) (h:DataW.trod (fun _=>()) P w 0 (fun _=>true) false fuel t cs=some (.iface name d,p)):∃ u v,cs=[.iface u v]:=by
 cases fuel with
 | zero=>simp [DataW.trod] at h
 | succ fuel=>
  unfold DataW.trod at h
  cases hu:P.underlying t with
  | none=>rw [hu] at ht;simp at ht
  | some u=>
   rw [hu] at ht h
   cases u<;>simp at ht
   split at h<;>simp_all
theorem esy_of {w:World}{L:List (String × DataW Unit)}(h:laidMetH Tryz.prog L w) (hp:(L.all fun x=>x.2.handleName?.isNone)=true) (m:("strconv.ErrSyntax",Rows.laid_strconv_ErrSyntax)∈L):Esy w:=by
 rw [MakeChecks.laidMetH_plain _ _ _ hp] at h
 obtain ⟨g,t,cs,fuel,p,hg,ht,hvar,hd⟩:=Lib.laidMet.reads h m
 have hg2:Tryz.prog.globalNamed "strconv.ErrSyntax" = some (renA.g 15):=by kernel_rfl
 rw [hg] at hg2
 obtain rfl:=Option.some.inj hg2
 have ht2:((Tryz.prog.globals[renA.g 15]?).map (·.type)).bind (fun t=>(Tryz.prog.underlying t).map (fun u=>match u with | .interface _=>true|_=>false))=some true:=by kernel_rfl
 rw [ht,Option.bind_some] at ht2
 obtain ⟨u,v,hcs⟩:=iface_of ht2 hd
 have:cs=#[.iface u v]:=by cases cs;simp at hcs;rw [hcs]
 subst this
 unfold World.var? at hvar
 rw [hg,Option.bind_some] at hvar
 refine ⟨.iface u v,?_,.inr ⟨u,v,rfl⟩⟩
 cases hh:w.heap[renA.g 15]? with
 | none=>rw [hh] at hvar;simp at hvar
 | some o=>
  rw [hh] at hvar
  cases o with
  | cells cs e f=>
   simp only [Option.some.injEq] at hvar
   subst hvar
   exact (cell_of_row w _ 0 _ _ _ hh).trans rfl
  | _=>simp at hvar
