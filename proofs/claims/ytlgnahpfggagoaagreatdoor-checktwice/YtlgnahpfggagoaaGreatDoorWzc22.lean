import Derived.Test.YtlgnahpfggagoaaGreatDoorWzc21
import Derived.Test.YtlgnahpfggagoaaGreatDoorWzc17
import Derived.Test.YtlgnahpfggagoaaGreatDoorWzc08
import Derived.Test.YtlgnahpfggagoaaGreatDoorWzc11
import Derived.Test.YtlgnahpfggagoaaGreatDoorWzc12
import Derived.Test.YtlgnahpfggagoaaGreatDoorWzc18
import Derived.Test.YtlgnahpfggagoaaGreatDoorWzc06
import Derived.Test.YtlgnahpfggagoaaGreatDoorWzc10
import Derived.Deep.CutBlock
import Derived.Test.YtlgnahpfggagoaaGreatDoorWzc20
import Derived.Test.YtlgnahpfggagoaaGreatDoorWzc19
import Derived.BigQuiet
/- What tumbrellaw06.Theirs does: the document's chart as the program's. -/
namespace Go.Proofs.YtlgnahpfggagoaaGreatDoor
open Go.RowKit Go.Lib
set_option linter.unusedSimpArgs false
set_option linter.unusedVariables false
attribute [local go_sem ↓] Go.wp_at_zero Go.wp_at_succ
theorem their_res {w4:World}{R:Nat}{a b c d e f:Value}{tmps:Array Value}(hR:Bn w4 R [a,b,c,d,e,f]) (ht:tmps.getD 2 undef=.pointer (some ⟨R,0,none⟩)):(results Tryz.f8 tmps).run Tryz.prog w4=.ok (.agg #[a,b,c,d,e,f]) w4:=by
 have ht':tmps[2]?.getD undef=.pointer (some ⟨R,0,none⟩):=by simpa using ht
 have c0:=(hR 0 _ rfl).1
 have c1:=(hR 1 _ rfl).1
 have c2:=(hR 2 _ rfl).1
 have c3:=(hR 3 _ rfl).1
 have c4:=(hR 4 _ rfl).1
 have c5:=(hR 5 _ rfl).1
 simp [results,Tryz.results8,go_sem,ht',c0,c1,c2,c3,c4,c5]
set_option maxRecDepth 100000 in
set_option maxHeartbeats 16000000 in
theorem theirs_ch {ok:Nat→Prop}{w:World}{d:Nat}{c:ChD d}{v:Value}(h:RdD ok w d c v) (hok:∀ t∈c.2.2.2,SmS d t) (hl1:totS d c.2.2.2≤400) (hl2:c.2.2.1.length≤3001) :
  Calls Tryz.prog 8 #[v] w fun e w'=>∃ u,e=.returned u∧RdC (fun b=>w.heap.size≤b) w' d (thC d c) u∧Below w.heap.size w w':=by
 obtain ⟨iv,hiv,hiv0,hiv1,hiv2⟩:=info_parts Tryz.infoVar
 obtain ⟨sv,ss,rfl,hv,hs⟩:=h
 obtain ⟨a,cap,rfl,hlc,hcm⟩:=hv.form
 obtain ⟨p4,p6,rfl,_⟩:=hs.form
 unfold maxLen at hcm
 have HV:=mkHid hv
 have hcall:=fun w1 (b1:Below w.heap.size w w1)=>ts_any d ok w1 c.2.2.2 _ (hs.stay (kp_stD d) (fun k hk hl=>⟨hk,b1.block k hl⟩)) hok hl1
 obtain ⟨nv,hnv⟩:∃ nv,sD c.1.1=.string nv:=⟨_,rfl⟩
 obtain ⟨n,hn⟩:∃ n,c.2.2.1.length=n:=⟨_,rfl⟩
 obtain ⟨i,hi⟩:∃ n,c.2.2.2.length=n:=⟨_,rfl⟩
 obtain ⟨vn,hvn⟩:∃ x,c.2.1=x:=⟨_,rfl⟩
 obtain ⟨ln,hln⟩:∃ x,c.1.2.1=x:=⟨_,rfl⟩
 obtain ⟨co,hco⟩:∃ x,c.1.2.2=x:=⟨_,rfl⟩
 rw [hnv,hvn,hln,hco,hi,hn]
 rw [hi] at hcall
 rw [hn] at hlc hl2
 have HN:Hid (c.2.2.1.length=n):=hn
 have HR:Hid (∀ (ok':Nat→Prop) (w':World) (a':Option Addr) (c':Nat) (b':Option Addr) (e':Nat),RdK ok' w' 4 (rVar ok' w') c.2.2.1 (.slice a' n c')→RdK ok' w' 11 (rSt d ok' w') (c.2.2.2.map (thS d)) (.slice b' i e')→RdC ok' w' d (thC d c) (.agg #[.string nv,.int .i64 vn,.int .i64 ln,.int .i64 co,.slice a' n c',.slice b' i e'])):=by
  intro ok' w' a' c' b' e' h1 h2
  refine ⟨_,_,?_,h1,h2⟩
  show _=Value.agg #[sV c.1.1,.int .i64 c.2.1,.int .i64 c.1.2.1,.int .i64 c.1.2.2,_,_]
  rw [show sV c.1.1=sD c.1.1 from rfl,hnv,hvn,hln,hco]
 have hcall2:∀ w1,Below w.heap.size w w1→Calls Tryz.prog 13 #[.slice p4 i p6] w1 fun e w'=>∃ iq ic,e=.returned (.slice iq i ic)∧RdK (fun b=>w1.heap.size≤b) w' 11 (rSt d (fun b=>w1.heap.size≤b) w') (c.2.2.2.map (thS d)) (.slice iq i ic)∧Below w1.heap.size w1 w':=fun w1 b1=>(hcall w1 b1).mono (fun e w' hh=>by
  obtain ⟨u,h1,h2,h3⟩:=hh
  obtain ⟨iq,ic,rfl,_⟩:=h2.form
  rw [List.length_map,hi] at h1 h2
  exact ⟨iq,ic,h1,h2,h3⟩)
 clear hcall hv hs hok hl1 hn hi hnv hvn hln hco
 have hal:Below w.heap.size w ((w.alloc (.cells #[.string nv,.int .i64 vn,.int .i64 ln,.int .i64 co,.slice a n cap,.slice p4 i p6] 27)).alloc (.cells #[.string ⟨#[]⟩,.int .i64 0,.int .i64 0,.int .i64 0,.slice none 0 0,.slice none 0 0] 34)):=((Below.refl w.heap.size w).alloc (Nat.le_refl _) _).alloc (by simp) _
 have hX:Bn ((w.alloc (.cells #[.string nv,.int .i64 vn,.int .i64 ln,.int .i64 co,.slice a n cap,.slice p4 i p6] 27)).alloc (.cells #[.string ⟨#[]⟩,.int .i64 0,.int .i64 0,.int .i64 0,.slice none 0 0,.slice none 0 0] 34)) w.heap.size [.string nv,.int .i64 vn,.int .i64 ln,.int .i64 co,.slice a n cap,.slice p4 i p6]:=(Bn.new w [.string nv,.int .i64 vn,.int .i64 ln,.int .i64 co,.slice a n cap,.slice p4 i p6] 27 _ rfl).on ((Below.refl _ _).alloc (Nat.le_refl _) _)
 have hR:Bn ((w.alloc (.cells #[.string nv,.int .i64 vn,.int .i64 ln,.int .i64 co,.slice a n cap,.slice p4 i p6] 27)).alloc (.cells #[.string ⟨#[]⟩,.int .i64 0,.int .i64 0,.int .i64 0,.slice none 0 0,.slice none 0 0] 34)) (w.heap.size+1) [.string ⟨#[]⟩,.int .i64 0,.int .i64 0,.int .i64 0,.slice none 0 0,.slice none 0 0]:=Bn.new (w.alloc (.cells #[.string nv,.int .i64 vn,.int .i64 ln,.int .i64 co,.slice a n cap,.slice p4 i p6] 27)) [.string ⟨#[]⟩,.int .i64 0,.int .i64 0,.int .i64 0,.slice none 0 0,.slice none 0 0] 34 _ (by simp)
 have hsz:((w.alloc (.cells #[.string nv,.int .i64 vn,.int .i64 ln,.int .i64 co,.slice a n cap,.slice p4 i p6] 27)).alloc (.cells #[.string ⟨#[]⟩,.int .i64 0,.int .i64 0,.int .i64 0,.slice none 0 0,.slice none 0 0] 34)).heap.size=w.heap.size+2:=by simp
 go_enter Tryz.func8,Tryz.ntmps8
 go_upto_region 1 with fail
 generalize ((w.alloc (.cells #[.string nv,.int .i64 vn,.int .i64 ln,.int .i64 co,.slice a n cap,.slice p4 i p6] 27)).alloc (.cells #[.string ⟨#[]⟩,.int .i64 0,.int .i64 0,.int .i64 0,.slice none 0 0,.slice none 0 0] 34))=wx at *
 obtain ⟨S,hS⟩:∃ S,w.heap.size=S:=⟨_,rfl⟩
 rw [hS] at hX hR hsz ⊢
 have HS:Hid (w.heap.size=S):=hS
 have hbx:Below w.heap.size w wx:=hal
 have hSw:w.heap.size≤S:=by omega
 clear hS hal
 go_cut [3] (fun u3 wc=>∃ Q iq ic,u3=.pointer (some ⟨Q,0,none⟩)∧S+2≤Q∧Bn wc Q [.string nv,.int .i64 vn,.int .i64 ln,.int .i64 co,.slice none 0 0,.slice iq i ic]∧RdK (fun k=>S+2≤k∧k≠Q) wc 11 (rSt d (fun k=>S+2≤k∧k≠Q) wc) (c.2.2.2.map (thS d)) (.slice iq i ic)∧Below (S+2) wx wc)
 case first=>
  have hbz:Below w.heap.size w (wx.alloc (.cells #[.string ⟨#[]⟩,.int .i64 0,.int .i64 0,.int .i64 0,.slice none 0 0,.slice none 0 0] 34)):=hbx.alloc hbx.size _
  have hZ0:Bn (wx.alloc (.cells #[.string ⟨#[]⟩,.int .i64 0,.int .i64 0,.int .i64 0,.slice none 0 0,.slice none 0 0] 34)) (S+2) [.string ⟨#[]⟩,.int .i64 0,.int .i64 0,.int .i64 0,.slice none 0 0,.slice none 0 0]:=Bn.new wx [.string ⟨#[]⟩,.int .i64 0,.int .i64 0,.int .i64 0,.slice none 0 0,.slice none 0 0] 34 _ hsz.symm
  have hzx:(wx.alloc (.cells #[.string ⟨#[]⟩,.int .i64 0,.int .i64 0,.int .i64 0,.slice none 0 0,.slice none 0 0] 34)).heap.size=S+3:=by simp;omega
  have n1:S≠S+2:=by omega
  obtain ⟨X0,_⟩:=hX 0 _ rfl
  obtain ⟨X1,_⟩:=hX 1 _ rfl
  obtain ⟨X2,_⟩:=hX 2 _ rfl
  obtain ⟨X3,_⟩:=hX 3 _ rfl
  obtain ⟨X5,_⟩:=hX 5 _ rfl
  clear HV HR hR
  go_region_held_law (fun w'=>w'.cell? ⟨S,0,none⟩=some (.string nv)∧w'.cell? ⟨S,1,none⟩=some (.int .i64 vn)∧w'.cell? ⟨S,2,none⟩=some (.int .i64 ln)∧w'.cell? ⟨S,3,none⟩=some (.int .i64 co)∧w'.cell? ⟨S,5,none⟩=some (.slice p4 i p6))
   (((refine ⟨?_,?_,?_,?_,?_⟩ <;> (repeat (first | (with_reducible exact X0) | (with_reducible exact X1) | (with_reducible exact X2) | (with_reducible exact X3) | (with_reducible exact X5) | (with_reducible exact Y0) | (with_reducible exact Y1) | (with_reducible exact Y2) | (with_reducible exact Y3) | (with_reducible exact Y5) | (with_reducible refine cell_al ?_) | (with_reducible refine cell_dr ?_) | (with_reducible refine cell_far4 (ne_pt n1) ?_) | (with_reducible refine cell_far4 (ne_pt n2) ?_))) <;> done)))
   (first
    | (go_at_call 13;(with_reducible refine (hcall2 _ hbx.drew).mono ?_);rintro e w1 ⟨iq,ic,rfl,hr1,b1⟩;have bw:Below wx.heap.size wx w1:=((Below.refl _ wx).drew).trans b1;have n2:S≠w1.heap.size:=(by have:=bw.size;omega);have kc:∀ p u,wx.cell? p=some u→w1.cell? p=some u:=fun p u hp=>(by rw [bw.cell (World.block_lt_of_cell? wx _ hp)];exact hp);have Y0:=kc _ _ X0;have Y1:=kc _ _ X1;have Y2:=kc _ _ X2;have Y3:=kc _ _ X3;have Y5:=kc _ _ X5)
    | (go_at_call 13;(with_reducible refine (hcall2 _ hbz.drew).mono ?_);rintro e w1 ⟨iq,ic,rfl,hr1,b1⟩;have bz:Below (wx.alloc (.cells #[.string ⟨#[]⟩,.int .i64 0,.int .i64 0,.int .i64 0,.slice none 0 0,.slice none 0 0] 34)).heap.size (wx.alloc (.cells #[.string ⟨#[]⟩,.int .i64 0,.int .i64 0,.int .i64 0,.slice none 0 0,.slice none 0 0] 34)) w1:=((Below.refl _ (wx.alloc (.cells #[.string ⟨#[]⟩,.int .i64 0,.int .i64 0,.int .i64 0,.slice none 0 0,.slice none 0 0] 34))).drew).trans b1;have bw:Below wx.heap.size wx w1:=((Below.refl wx.heap.size wx).alloc (Nat.le_refl _) (.cells #[.string ⟨#[]⟩,.int .i64 0,.int .i64 0,.int .i64 0,.slice none 0 0,.slice none 0 0] 34)).trans (bz.mono (by rw [hsz,hzx];omega));have kc:∀ p u,wx.cell? p=some u→w1.cell? p=some u:=fun p u hp=>(by rw [bw.cell (World.block_lt_of_cell? wx _ hp)];exact hp);have Y0:=kc _ _ X0;have Y1:=kc _ _ X1;have Y2:=kc _ _ X2;have Y3:=kc _ _ X3;have Y5:=kc _ _ X5;have hZ:=hZ0.on bz;obtain ⟨z0,f0⟩:=hZ 0 _ rfl;obtain ⟨z1,f1⟩:=hZ 1 _ rfl;obtain ⟨z2,f2⟩:=hZ 2 _ rfl;obtain ⟨z3,f3⟩:=hZ 3 _ rfl;obtain ⟨z4,f4⟩:=hZ 4 _ rfl;obtain ⟨z5,f5⟩:=hZ 5 _ rfl)
    | fail)
  ·have bw2:Below (S+2) wx w1:=by rw [← hsz];exact bw
   have hs1:S+2≤w1.heap.size:=by have:=bw.size;omega
   have hr2:=hr1.stay (kp_st d) (ok':=fun k=>S+2≤k∧k≠w1.heap.size) (w':=w1.alloc (.cells #[.string nv,.int .i64 vn,.int .i64 ln,.int .i64 co,.slice none 0 0,.slice iq i ic] 34)) (fun k hk hl=>⟨⟨by have hk':wx.heap.size≤k:=hk;omega,by omega⟩,((Below.refl w1.heap.size w1).alloc (Nat.le_refl _) _).block k hl⟩)
   go_wp2
   go_meet
   case rel=>exact ⟨w1.heap.size,iq,ic,rfl,hs1,Bn.new w1 [.string nv,.int .i64 vn,.int .i64 ln,.int .i64 co,.slice none 0 0,.slice iq i ic] 34 _ rfl,hr2,bw2.alloc hs1 _⟩
  ·have bw2:Below (S+2) wx w1:=by rw [← hsz];exact bw
   have hQ2:=((((((hZ.set (i:=0) (by simp) (.string nv)).set (i:=1) (by simp) (.int .i64 vn)).set (i:=2) (by simp) (.int .i64 ln)).set (i:=3) (by simp) (.int .i64 co)).set (i:=4) (by simp) (.slice none 0 0)).set (i:=5) (by simp) (.slice iq i ic))
   have hb2:=putL_below [.string nv,.int .i64 vn,.int .i64 ln,.int .i64 co,.slice none 0 0,.slice iq i ic] w1 (S+2) 0 bw2 (Nat.le_refl _)
   have hr2:=hr1.stay (kp_st d) (ok':=fun k=>S+2≤k∧k≠S+2) (w':=putL w1 (S+2) 0 [.string nv,.int .i64 vn,.int .i64 ln,.int .i64 co,.slice none 0 0,.slice iq i ic]) (fun k hk hl=>⟨by have hk':(wx.alloc (.cells #[.string ⟨#[]⟩,.int .i64 0,.int .i64 0,.int .i64 0,.slice none 0 0,.slice none 0 0] 34)).heap.size≤k:=hk;omega,putL_heap _ _ _ _ _ (by have hk':(wx.alloc (.cells #[.string ⟨#[]⟩,.int .i64 0,.int .i64 0,.int .i64 0,.slice none 0 0,.slice none 0 0] 34)).heap.size≤k:=hk;omega)⟩)
   go_wp2
   go_meet
   case rel=>exact ⟨S+2,iq,ic,rfl,Nat.le_refl _,hQ2,hr2,hb2⟩
 case rest=>
  obtain ⟨Q,iq,ic,rfl,hQ,hQb,hQr,hbq⟩:=hcut
  have hXc:=hX.blk (hbq.block S (by omega))
  have hRc:=hR.blk (hbq.block (S+1) (by omega))
  have hbw:=hbx.trans (hbq.mono (by omega))
  obtain ⟨wk,hwk⟩:∃ x,x=wc:=⟨_,rfl⟩
  subst hwk
  have hql:Q < wk.heap.size:=hQb.lt
  have hws:=hXc.lt
  have hwr:=hRc.lt
  obtain ⟨x4,_⟩:=hXc 4 _ rfl
  go_wp2
  go_loopw [18] (fun ix wr=>∃ (j:Nat) (sl2:Value),j≤n∧ix=.int .i64 (j:Int)∧Bn wr Q [.string nv,.int .i64 vn,.int .i64 ln,.int .i64 co,sl2,.slice iq i ic]∧OwnB wr wk.heap.size (fun _=>False) 61 4 rVar sl2 (c.2.2.1.take j)∧Fx Q wk wr) (fun ix _=>n - (RowKit.intOf ix).toNat)
  case atStart=>exact ⟨0,_,Nat.zero_le _,rfl,hQb,ownB_nil _ _ _ _ _ _,Fx.refl _ _⟩
  case round=>
   clear x4
   obtain ⟨j,sl2,hj,rfl,hQB,hRow,hF⟩:=hrel
   obtain ⟨acj,hacj⟩:∃ acj,c.2.2.1.take j=acj:=⟨_,rfl⟩
   have hlj:acj.length=j:=by rw [← hacj,List.length_take,HN.out];omega
   rw [hacj] at hRow
   have HACJ:Hid (c.2.2.1.take j=acj):=hacj
   clear hacj
   obtain ⟨ra,rc,rfl,hrl,hrm⟩:=hRow.form
   rw [hlj] at hRow hQB hrl
   have hXr:=hXc.fx hF (by omega)
   have hFs:=hF.size
   have hbr:Below w.heap.size w wr:=hF.bel hbw (by omega) (Nat.le_refl _)
   by_cases hjl:j < n
   ·have hjt:j < c.2.2.1.length:=by rw [HN.out];exact hjl
    obtain ⟨b,off,rfl,hbl,hc⟩:=varQ_at (show RdK ok w 4 (rVar ok w) c.2.2.1 _ from HV.out) j hjt
    obtain ⟨q,hq⟩:∃ q,c.2.2.1[j]=q:=⟨_,rfl⟩
    rw [hq] at hc
    obtain ⟨sn,sv,sl,sc,hsv⟩:∃ sn sv sl sc,varV q=[.string sn,.int .i64 sv,.int .i64 sl,.int .i64 sc]:=⟨_,_,_,_,rfl⟩
    rw [hsv] at hc
    have hp:rVar (fun b=>wr.heap.size≤b) wr q [.string sn,.int .i64 sv,.int .i64 sl,.int .i64 sc]:=hsv.symm
    have HQ:Hid (c.2.2.1[j]=q):=hq
    clear hsv hq
    have C0:=(hbr.cell (p:=⟨b,off+j*4+0,none⟩) hbl).trans (hc 0 _ rfl)
    have C1:=(hbr.cell (p:=⟨b,off+j*4+1,none⟩) hbl).trans (hc 1 _ rfl)
    have C2:=(hbr.cell (p:=⟨b,off+j*4+2,none⟩) hbl).trans (hc 2 _ rfl)
    have C3:=(hbr.cell (p:=⟨b,off+j*4+3,none⟩) hbl).trans (hc 3 _ rfl)
    rw [Nat.add_zero] at C0
    clear hc
    obtain ⟨P4,_⟩:=hXr 4 _ rfl
    obtain ⟨k4,z4⟩:=hQB 4 _ rfl
    have i3:(j:Int) < (n:Int):=by omega
    have i4:(0:Int)≤(j:Int):=by omega
    have hali:=(Below.refl wr.heap.size wr).alloc (Nat.le_refl _) (.cells #[.string sn,.int .i64 sv,.int .i64 sl,.int .i64 sc] 61)
    have hQa:=hQB.on hali
    obtain ⟨m4,o4⟩:=hQa 4 _ rfl
    go_upto_region 5 with fail
    go_region_law (first
     | (refine step_pushB wr.drew rfl _ _ 31 rfl wk.heap.size (fun _=>False) 61 iv (.agg #[.string ⟨#[]⟩,.int .i64 0,.int .i64 0,.int .i64 0]) 4 40 Tryz.underlying31 hiv hiv0 hiv1 hiv2 rfl kp_var (.slice ra j rc) acj q [.string sn,.int .i64 sv,.int .i64 sl,.int .i64 sc] wr.heap.size rfl rfl rfl (by simp [Value.oneCell']) hRow hp hFs (fun x hx=>(hRow.lt x hx).2) (fun b hb=>hb.elim) (by omega) (by unfold maxLen;omega) hFs ?_;intro vb wb hOb2 hgb2 hbb hat;have hBb:=hQB.blk (hbb.block _ hql);obtain ⟨m5,n5⟩:=hBb 4 _ rfl;obtain ⟨vba,vbc,hvb,hvbl,hvbm⟩:=hOb2.form;rw [List.length_append,List.length_singleton,hlj] at hvb;subst hvb)
     | fail)
    all_goals (
     have hBc:=hBb.set (i:=4) (by simp) (.slice vba (j+1) vbc)
     have hRc2:=hOb2.set kp_var (X:=Q) (i:=4) hql (.slice vba (j+1) vbc)
     have hFc:=((hF.drew).andD hbb (Nat.le_refl _)).setX (i:=4) (.slice vba (j+1) vbc)
     have hac2:c.2.2.1.take (j+1)=acj++[q]:=by rw [List.take_succ_eq_append_getElem hjt,HACJ.out,HQ.out]
     clear hQa m4 o4 hali hgb2 hbb hat hBb m5 n5 hOb2 k4 z4 P4 C0 C1 C2 C3
     go_wp2
     go_roundw
     case rel=>exact ⟨j+1,_,hjl,by go_num,hBc,by rw [hac2];exact hRc2,hFc⟩
     case measure=>simp [RowKit.intOf];omega)
   ·have i3:¬ (j:Int) < (n:Int):=by omega
    have hjn:j=n:=by omega
    subst hjn
    have hfull:acj=c.2.2.1:=by rw [← HACJ.out];exact List.take_of_length_le (by rw [HN.out];omega)
    have hRr:=hRc.fx hF (by omega)
    have hS2:=HS.out
    have hvars:=(hRow.rd kp_var).stay kp_var (ok':=fun b=>S+2≤b) (w':=putL wr (S+1) 0 [.string nv,.int .i64 vn,.int .i64 ln,.int .i64 co,.slice ra j rc,.slice iq i ic]) (fun b hb hl=>⟨by omega,putL_heap _ _ _ _ _ (by omega)⟩)
    rw [hfull] at hvars
    have hstates:=hQr.stay (kp_st d) (ok':=fun b=>S+2≤b) (w':=putL wr (S+1) 0 [.string nv,.int .i64 vn,.int .i64 ln,.int .i64 co,.slice ra j rc,.slice iq i ic]) (fun b hb hl=>⟨hb.1,(putL_heap _ _ _ _ _ (by omega)).trans (hF.block b hl (fun e=>hb.2 (Option.some.inj e)))⟩)
    have hfin:=HR.out _ _ _ _ _ _ (hvars.stay kp_var (ok':=fun b=>w.heap.size≤b) (fun b hb hl=>⟨by omega,rfl⟩)) (hstates.stay (kp_st d) (ok':=fun b=>w.heap.size≤b) (fun b hb hl=>⟨by omega,rfl⟩))
    have hbz:=putL_below [.string nv,.int .i64 vn,.int .i64 ln,.int .i64 co,.slice ra j rc,.slice iq i ic] wr (S+1) 0 hbr (by omega)
    clear hS2
    obtain ⟨t0,_⟩:=hQB 0 _ rfl
    obtain ⟨r0,f0⟩:=hRr 0 _ rfl
    obtain ⟨t1,_⟩:=hQB 1 _ rfl
    obtain ⟨r1,f1⟩:=hRr 1 _ rfl
    obtain ⟨t2,_⟩:=hQB 2 _ rfl
    obtain ⟨r2,f2⟩:=hRr 2 _ rfl
    obtain ⟨t3,_⟩:=hQB 3 _ rfl
    obtain ⟨r3,f3⟩:=hRr 3 _ rfl
    obtain ⟨t4,_⟩:=hQB 4 _ rfl
    obtain ⟨r4,f4⟩:=hRr 4 _ rfl
    obtain ⟨t5,_⟩:=hQB 5 _ rfl
    obtain ⟨r5,f5⟩:=hRr 5 _ rfl
    have hRz:=(((((hRr.set (i:=0) (by simp) (.string nv)).set (i:=1) (by simp) (.int .i64 vn)).set (i:=2) (by simp) (.int .i64 ln)).set (i:=3) (by simp) (.int .i64 co)).set (i:=4) (by simp) (.slice ra j rc)).set (i:=5) (by simp) (.slice iq i ic)
    go_wp2
    exact bodyPost_ret (their_res hRz rfl) rfl ⟨_,rfl,hfin,hbz⟩
end Go.Proofs.YtlgnahpfggagoaaGreatDoor
/- What a small chart is as the program has it. Math alone. -/
namespace Go.Proofs.YtlgnahpfggagoaaGreatDoor
open Go.RowKit Go.Lib
set_option linter.unusedSimpArgs false
set_option linter.unusedVariables false
theorem smx_ok {x:Sx}(h:SmX x):ExOk (clX x)∧cntX (clX x)≤1000:=by
 obtain ⟨h1,h2⟩:=small_cln (d:=x.1) (t:=x.2) h
 have h3:cntX (clX x)≤1000:=h1
 exact ⟨⟨cl_cln x.1 x.2,by omega,h2⟩,h3⟩
theorem isIf_ne {v:Value}(h:isIf v=true):v≠.nilIface:=fun e=>by rw [e] at h;exact absurd h (by decide)
theorem thO_k {o:OnC}(h:OnS o):OnK (thO o):=by
 obtain ⟨h1,h2,h3,h4,h5⟩:=h
 refine ⟨by show o.1.length≤_;omega,by show o.2.2.1.length≤_;omega,fun hg=>?_,fun s hs=>?_⟩
 ·have hg2:(o.2.1.1 && isIf (exX o.2.1.2))=true:=hg
  rw [Bool.and_eq_true] at hg2
  obtain ⟨q1,q2⟩:=smx_ok h3
  exact ⟨q1,q2,by show exX (clX o.2.1.2)≠_;rw [exX_cl];exact isIf_ne hg2.2⟩
 ·obtain ⟨s',hs',rfl⟩:=List.mem_map.1 (show s∈o.2.2.2.1.map thT from hs)
  obtain ⟨q1,q2⟩:=h5 s' hs'
  obtain ⟨q3,q4⟩:=smx_ok q2
  exact ⟨⟨by show s'.1.length≤_;omega,q3⟩,q4⟩
theorem thO_ok {o:OnC}(h:OnS o):OnOk (thO o):=by
 obtain ⟨k1,k2,k3,k4⟩:=thO_k h
 exact ⟨k1,k2,fun hg=>(k3 hg).1,fun s hs=>(k4 s hs).1,by show (o.2.2.2.1.map thT).length≤_;rw [List.length_map];have:=h.2.2.2.1;omega⟩
theorem thS_k:∀ (d:Nat) (t:St d),SmS d t→StK d (thS d t)
 | 0,t,_=>Empty.elim t
 | d+1,t,h=>by
  obtain ⟨⟨h1,h2,h3,h4,h5⟩,h6⟩:=h
  refine ⟨⟨by show t.1.1.1.length≤_;omega,by show t.1.2.2.1.1.length≤_;omega,by show t.1.2.2.1.2.length≤_;omega,fun o ho=>?_⟩,fun x hx=>?_⟩
  ·obtain ⟨o',ho',rfl⟩:=List.mem_map.1 (show o∈t.1.2.2.2.2.map thO from ho)
   exact thO_k (h5 o' ho')
  ·obtain ⟨x',hx',rfl⟩:=List.mem_map.1 (show x∈t.2.map (thS d) from hx)
   exact thS_k d x' (h6 x' hx')
theorem thS_ok:∀ (d:Nat) (t:St d),SmS d t→totS d [t]≤400→StOk d (thS d t)
 | 0,t,_,_=>Empty.elim t
 | d+1,t,h,ht=>by
  obtain ⟨⟨h1,h2,h3,h4,h5⟩,h6⟩:=h
  have ht2:totS d t.2≤400:=by
   have e:totS (d+1) [t]=(1+totS d t.2)+0:=rfl
   omega
  refine ⟨⟨by show t.1.1.1.length≤_;omega,by show t.1.2.2.1.1.length≤_;omega,by show t.1.2.2.1.2.length≤_;omega,by show (t.1.2.2.2.2.map thO).length≤_;rw [List.length_map];omega,fun o ho=>?_⟩,?_,fun x hx=>?_⟩
  ·obtain ⟨o',ho',rfl⟩:=List.mem_map.1 (show o∈t.1.2.2.2.2.map thO from ho)
   exact thO_ok (h5 o' ho')
  ·show (t.2.map (thS d)).length≤_
   rw [List.length_map]
   match d,t.2,ht2 with
   | 0,[],_=>simp
   | 0,x :: _,_=>exact Empty.elim x
   | d+1,l,hl=>have:=tot_len l;omega
  ·obtain ⟨x',hx',rfl⟩:=List.mem_map.1 (show x∈t.2.map (thS d) from hx)
   refine thS_ok d x' (h6 x' hx') ?_
   match d,t.2,x',hx',ht2 with
   | 0,_,x',_,_=>exact Empty.elim x'
   | d+1,l,x',hx',hl=>
    have e:∀ (l:List (St (d+1))) (y:St (d+1)),y∈l→totS (d+1) [y]≤totS (d+1) l:=fun l=>by
     induction l with
     | nil=>intro y hy;cases hy
     | cons z r ih=>
      intro y hy
      have e1:totS (d+1) (z :: r)=(1+totS d z.2)+totS (d+1) r:=rfl
      have e2:totS (d+1) [y]=(1+totS d y.2)+0:=rfl
      rcases List.mem_cons.1 hy with rfl | hy
      ·omega
      ·have:=ih y hy;omega
    have:=e l x' hx'
    omega
theorem sz_tot:∀ (d:Nat) (l:List (St d)),szL d (l.map (thS d))≤totS d l+1
 | 0,l=>Nat.le_refl _
 | d+1,l=>by
  show ((l.map (thS (d+1))).map (fun t:St (d+1)=>szL d t.2)).sum+1≤(l.map (fun t:St (d+1)=>1+totS d t.2)).sum+1
  rw [List.map_map]
  induction l with
  | nil=>simp
  | cons x r ih=>
   rw [List.map_cons,List.map_cons,List.sum_cons,List.sum_cons]
   have h1:=sz_tot d x.2
   have h2:((fun t:St (d+1)=>szL d t.2) ∘ thS (d+1)) x=szL d (x.2.map (thS d)):=rfl
   omega
theorem tot_one:∀ {d:Nat}{l:List (St d)}{t:St d},t∈l→totS d [t]≤totS d l
 | 0,_,t,_=>Empty.elim t
 | d+1,z :: r,t,h=>by
  have e1:totS (d+1) (z :: r)=(1+totS d z.2)+totS (d+1) r:=rfl
  have e2:totS (d+1) [t]=(1+totS d t.2)+0:=rfl
  rcases List.mem_cons.1 h with rfl | h
  ·omega
  ·have:=tot_one h;omega
theorem chK_th {d:Nat}{c:ChD d}(h:SmCh d c) (hw:WfC d c):ChK d (thC d c):=by
 obtain ⟨h1,h2,h3,h4⟩:=h
 refine ⟨by show c.1.1.length≤_;omega,fun x hx=>hw.2.1 x hx,fun t ht=>?_⟩
 obtain ⟨t',ht',rfl⟩:=List.mem_map.1 (show t∈c.2.2.2.map (thS d) from ht)
 exact thS_k d t' (h4 t' ht')
theorem tot_length:∀ {d:Nat}(l:List (St d)),l.length≤totS d l
 | 0,[]=>Nat.le_refl _
 | 0,x :: _=>Empty.elim x
 | d+1,l=>tot_len l
theorem chOk_th {d:Nat}{c:ChD d}(h:SmCh d c) (hw:WfC d c):ChOk d (thC d c):=by
 obtain ⟨h1,h2,h3,h4⟩:=h
 refine ⟨by show c.1.1.length≤_;omega,by show c.2.2.1.length≤_;omega,fun x hx=>hw.2.1 x hx,⟨?_,fun t ht=>?_⟩,?_⟩
 ·show (c.2.2.2.map (thS d)).length≤_
  rw [List.length_map]
  have:=tot_length c.2.2.2
  omega
 ·obtain ⟨t',ht',rfl⟩:=List.mem_map.1 (show t∈c.2.2.2.map (thS d) from ht)
  exact thS_ok d t' (h4 t' ht') (Nat.le_trans (tot_one ht') h3)
 ·show szL d (c.2.2.2.map (thS d))≤_
  have:=sz_tot d c.2.2.2
  omega
end Go.Proofs.YtlgnahpfggagoaaGreatDoor
/- What the document's lies answers. -/
namespace Go.Proofs.YtlgnahpfggagoaaGreatDoor
open Go.RowKit Go.Lib
set_option linter.unusedSimpArgs false
set_option linter.unusedVariables false
attribute [local go_sem ↓] Go.wp_at_zero Go.wp_at_succ
theorem flM_len:∀ (d k:Nat) (l:List (St d)),(flM d k (l.map (thS d))).length=totS d l
 | 0,k,l=>by simp [flM,totS]
 | d+1,k,[]=>by simp [flM,totS]
 | d+1,k,t :: r=>by
  have h1:=flM_len d (k+1) t.2
  have h2:=flM_len (d+1) k r
  have e:flM (d+1) k ((t :: r).map (thS (d+1)))=(k,⟨d+1,thS (d+1) t⟩) :: (flM d (k+1) (t.2.map (thS d))++flM (d+1) k (r.map (thS (d+1)))):=by
   simp only [flM,List.map_cons,List.flatMap_cons,List.cons_append]
   rfl
  rw [e,List.length_cons,List.length_append,h1,h2]
  show _=((t :: r).map (fun t:St (d+1)=>1+totS d t.2)).sum
  rw [List.map_cons,List.sum_cons]
  show totS d t.2+totS (d+1) r+1=1+totS d t.2+totS (d+1) r
  omega
theorem rdC_letT {ok:Nat→Prop}{w:World}{d:Nat}{c:ChG d}{v:Value}(h:RdC ok w d c v):∃ a b e f g h' i j k l,v=.agg #[.string a,.int .i64 b,.int .i64 e,.int .i64 f,.slice g h' i,.slice j k l]:=by
 obtain ⟨sv,ss,rfl,h1,h2⟩:=h
 obtain ⟨a,cap,rfl,_⟩:=h1.form
 obtain ⟨a',cap',rfl,_⟩:=h2.form
 exact ⟨_,_,_,_,_,_,_,_,_,_,rfl⟩
theorem rdD_letT {ok:Nat→Prop}{w:World}{d:Nat}{c:ChD d}{v:Value}(h:RdD ok w d c v):∃ a b e f g h' i j k l,v=.agg #[.string a,.int .i64 b,.int .i64 e,.int .i64 f,.slice g h' i,.slice j k l]:=by
 obtain ⟨sv,ss,rfl,h1,h2⟩:=h
 obtain ⟨a,cap,rfl,_⟩:=h1.form
 obtain ⟨a',cap',rfl,_⟩:=h2.form
 exact ⟨_,_,_,_,_,_,_,_,_,_,rfl⟩
end Go.Proofs.YtlgnahpfggagoaaGreatDoor
/- What follows of a chart's being right; a chart with one state more of a name that is there. Math alone. -/
namespace Go.Proofs.YtlgnahpfggagoaaGreatDoor
open Go.RowKit Go.Lib
set_option linter.unusedSimpArgs false
set_option linter.unusedVariables false
theorem ckL_zero:∀ (l:List (Int × Option Pl)),(∀ x∈l,x.1≠0)→(ckL l).2=0→∀ x∈l,x.2=none
 | [],_,_,x,hx=>by cases hx
 | (n,some a) :: r,h,h0,_,_=>absurd h0 (h _ List.mem_cons_self)
 | (n,none) :: r,h,h0,x,hx=>by
  rcases List.mem_cons.1 hx with rfl | hx
  ·rfl
  ·exact ckL_zero r (fun y hy=>h y (List.mem_cons_of_mem _ hy)) h0 x hx
theorem ckC_zero {d:Nat}{c:ChG d}(h:(ckC c).2=0):chF d c=true∧tmR c (fsC c)=none∧ntR c (fsC c)=none∧miR (fsC c)=none∧asR (fsC c)=none∧bwR (fsC c)=none:=by
 unfold ckC at h
 by_cases hf:chF d c=true
 ·rw [if_pos hf] at h
  have hz:=ckL_zero (rdsC c (fsC c)) (by simp [rdsC]) h
  have m0:∀ (x:Int × Option Pl) (i:Nat),(rdsC c (fsC c))[i]?=some x→x.2=none:=fun x i e=>hz x (List.mem_of_getElem? e)
  exact ⟨hf,m0 (4,_) 0 rfl,m0 (14,_) 1 rfl,m0 (16,_) 4 rfl,m0 (15,_) 5 rfl,m0 (17,_) 6 rfl⟩
 ·rw [if_neg hf] at h
  exact absurd h (by decide)
theorem frO_none (q:Nat→Bool):∀ (l:List OnC) (j:Nat),frO q l j=none→∀ i,i < l.length→q (j+i)=false
 | [],_,_,i,hi=>by simp at hi
 | o :: r,j,h,i,hi=>by
  unfold frO at h
  by_cases hq:q j=true
  ·rw [if_pos hq] at h;cases h
  ·rw [if_neg hq] at h
   cases i with
   | zero=>simpa using hq
   | succ i=>
    have:=frO_none q r (j+1) h i (by simpa using hi)
    rwa [show j+1+i=j+(i+1) by omega] at this
theorem frO_of (q:Nat→Bool):∀ (l:List OnC) (j:Nat),(∀ i,i < l.length→q (j+i)=false)→frO q l j=none
 | [],_,_=>rfl
 | o :: r,j,h=>by
  unfold frO
  rw [if_neg (by have:=h 0 (by simp);simpa using this)]
  refine frO_of q r (j+1) (fun i hi=>?_)
  have:=h (i+1) (by simpa using hi)
  rwa [show j+1+i=j+(i+1) by omega]
theorem frS_none (p:Nat→Bool) (q:Nat→Nat→Bool):∀ (l:List (Int × SgS)) (k:Nat),frS p q l k=none→∀ i (h:i < l.length),p (k+i)=false∧∀ j,j < (sgO (l[i]).2).length→q (k+i) j=false
 | [],_,_,i,hi=>by simp at hi
 | x :: r,k,h,i,hi=>by
  unfold frS at h
  by_cases hp:p k=true
  ·rw [if_pos hp] at h;cases h
  ·rw [if_neg hp] at h
   cases ho:frO (q k) (sgO x.2) 0 with
   | some a=>rw [ho] at h;cases h
   | none=>
    rw [ho] at h
    cases i with
    | zero=>
     refine ⟨by simpa using hp,fun j hj=>?_⟩
     have:=frO_none (q k) (sgO x.2) 0 ho j hj
     simpa using this
    | succ i=>
     have:=frS_none p q r (k+1) h i (by simpa using hi)
     rw [show k+1+i=k+(i+1) by omega] at this
     exact this
theorem frS_of (p:Nat→Bool) (q:Nat→Nat→Bool):∀ (l:List (Int × SgS)) (k:Nat),(∀ i (h:i < l.length),p (k+i)=false∧∀ j,j < (sgO (l[i]).2).length→q (k+i) j=false)→frS p q l k=none
 | [],_,_=>rfl
 | x :: r,k,h=>by
  unfold frS
  have h0:=h 0 (by simp)
  rw [if_neg (by have:=h0.1;simpa using this),frO_of (q k) (sgO x.2) 0 (fun j hj=>by have:=h0.2 j hj;simpa using this)]
  refine frS_of p q r (k+1) (fun i hi=>?_)
  have:=h (i+1) (by simpa using hi)
  rw [show k+(i+1)=k+1+i by omega] at this
  exact this
theorem frS_app (p:Nat→Bool) (q:Nat→Nat→Bool) (r:List (Int × SgS)):∀ (l:List (Int × SgS)) (k:Nat),frS p q l k=none→frS p q (l++r) k=frS p q r (k+l.length)
 | [],k,_=>rfl
 | x :: l,k,h=>by
  unfold frS at h
  show frS p q (x :: (l++r)) k=_
  rw [frS]
  by_cases hp:p k=true
  ·rw [if_pos hp] at h;cases h
  ·rw [if_neg hp] at h ⊢
   cases ho:frO (q k) (sgO x.2) 0 with
   | some a=>rw [ho] at h;cases h
   | none=>
    rw [ho] at h
    have:=frS_app p q r l (k+1) h
    simp only []
    rw [this,List.length_cons,show k+1+l.length=k+(l.length+1) by omega]
theorem tm_none {d:Nat}{c:ChG d}{fs:List (Int × SgS)}(h:tmR c fs=none):c.2.2.1[8]?=none∧0 < fs.length∧fs.length≤40∧frS (fun i=>(i:Int) == 40) (qO fs (fun _ j _ o=>decide ((j:Int)=6) || decide (4 < o.2.2.2.1.length))) fs 0=none:=by
 unfold tmR at h
 cases h8:c.2.2.1[8]? with
 | some x=>rw [h8] at h;cases h
 | none=>
  rw [h8] at h
  simp only [] at h
  by_cases hz:fs.length=0
  ·rw [if_pos hz] at h;cases h
  ·rw [if_neg hz] at h
   refine ⟨rfl,by omega,?_,h⟩
   by_cases hl:fs.length≤40
   ·exact hl
   ·have:=(frS_none _ _ fs 0 h 40 (by omega)).1
    simp at this
/-- A flat state, as the program has it. -/
def thP (x:Int × SgS):Int × SgS:=(x.1,⟨x.2.1,thS x.2.1 x.2.2⟩)
theorem flA_thP (d:Nat) (ih:∀ p m l,flP d p m (l.map (thS d))=(flP d p m l).map thP) (p:Int):∀ (l:List (St (d+1))) (m:Nat),flA d (flP d) p m (l.map (thS (d+1)))=(flA d (flP d) p m l).map thP
 | [],_=>rfl
 | t :: r,m=>by
  show (p,(⟨d+1,thS (d+1) t⟩:SgS)) :: (flP d m (m+1) (t.2.map (thS d))++flA d (flP d) p (m+1+(flP d m (m+1) (t.2.map (thS d))).length) (r.map (thS (d+1))))=((p,(⟨d+1,t⟩:SgS)) :: (flP d m (m+1) t.2++flA d (flP d) p (m+1+(flP d m (m+1) t.2).length) r)).map thP
  rw [ih,List.length_map,flA_thP d ih p r,List.map_cons,List.map_append]
  rfl
theorem flP_thP:∀ (d:Nat) (p:Int) (m:Nat) (l:List (St d)),flP d p m (l.map (thS d))=(flP d p m l).map thP
 | 0,_,_,_=>rfl
 | d+1,p,m,l=>flA_thP d (fun p m l=>flP_thP d p m l) p l m
theorem flM_fm:∀ (d k n:Nat) (l:List (St d)),l.all (stF d n)=true→∀ y∈flM d k l,∃ n',stF y.2.1 n' y.2.2=true
 | 0,k,n,l,_,y,hy=>by simp [flM] at hy
 | d+1,k,n,l,h,y,hy=>by
  simp only [flM,List.mem_flatMap,List.mem_cons] at hy
  obtain ⟨t,ht,rfl | hy⟩:=hy
  ·exact ⟨n,List.all_eq_true.1 h t ht⟩
  ·have h1:=List.all_eq_true.1 h t ht
   have h2:t.2.all (stF d (n+1))=true:=by
    simp only [stF,Bool.and_eq_true] at h1
    exact h1.2
   exact flM_fm d (k+1) (n+1) t.2 h2 y hy
theorem flP_fm {d:Nat}{l:List (St d)}(h:l.all (stF d 1)=true):∀ x∈flP d (-1) 0 l,∃ n',stF x.2.1 n' x.2.2=true:=fun x hx=>by
 have h2:x.2∈(flM d 0 l).map (fun x=>x.2):=by rw [← flP_st d 0 (-1) 0];exact List.mem_map.2 ⟨x,hx,rfl⟩
 obtain ⟨y,hy,he⟩:=List.mem_map.1 h2
 have:=flM_fm d 0 1 l h y hy
 rw [he] at this
 exact this
theorem flM_sm:∀ (d k:Nat) (l:List (St d)),(∀ t∈l,SmS d t)→∀ y∈flM d k l,SmS y.2.1 y.2.2
 | 0,k,l,_,y,hy=>by simp [flM] at hy
 | d+1,k,l,h,y,hy=>by
  simp only [flM,List.mem_flatMap,List.mem_cons] at hy
  obtain ⟨t,ht,rfl | hy⟩:=hy
  ·exact h t ht
  ·exact flM_sm d (k+1) t.2 (h t ht).2 y hy
theorem flP_sm {d:Nat}{l:List (St d)}(h:∀ t∈l,SmS d t):∀ x∈flP d (-1) 0 l,SmS x.2.1 x.2.2:=fun x hx=>by
 have h2:x.2∈(flM d 0 l).map (fun x=>x.2):=by rw [← flP_st d 0 (-1) 0];exact List.mem_map.2 ⟨x,hx,rfl⟩
 obtain ⟨y,hy,he⟩:=List.mem_map.1 h2
 have:=flM_sm d 0 l h y hy
 rw [he] at this
 exact this
theorem thP_n (x:Int × SgS):sgN (thP x).2=sgN x.2:=by
 obtain ⟨k,e,t⟩:=x
 cases e with
 | zero=>exact Empty.elim t
 | succ e=>rfl
theorem thP_h (x:Int × SgS):sgH (thP x).2=thH (sgH x.2):=by
 obtain ⟨k,e,t⟩:=x
 cases e with
 | zero=>exact Empty.elim t
 | succ e=>rfl
theorem thP_i (x:Int × SgS):sgI (thP x).2=sgI x.2:=by
 obtain ⟨k,e,t⟩:=x
 cases e with
 | zero=>exact Empty.elim t
 | succ e=>exact List.length_map ..
theorem thP_o (x:Int × SgS):sgO (thP x).2=(sgO x.2).map thO:=by
 obtain ⟨k,e,t⟩:=x
 cases e with
 | zero=>exact Empty.elim t
 | succ e=>rfl
theorem fsC_th {d:Nat}(c:ChD d):fsC (thC d c)=((flP d (-1) 0 c.2.2.2).map thP).take 41:=by
 show (flP d (-1) 0 (c.2.2.2.map (thS d))).take 41=_
 rw [flP_thP]
/-- What a law asks of the flat states of a chart that is right. -/
structure Rg (l:List (Int × SgS)):Prop where
 n1:1≤l.length
 n40:l.length≤40
 lf:∀ i (h:i < l.length),sgI (l[i]).2=0→((sgH (l[i]).2).2.1.2 == stpB (sgD (l[i]).2))=false
 go:∀ i (h:i < l.length),∀ o∈sgO (l[i]).2,∃ m,∃ hm:m < l.length,(sgN (l[m]).2).toList=(onTg o).toList∧(dnB (onEv o)=true→i < m)
theorem right_fs {d:Nat}{c:ChD d}(h:(ckC (thC d c)).2=0):(flP d (-1) 0 c.2.2.2).length≤40∧fsC (thC d c)=(flP d (-1) 0 c.2.2.2).map thP:=by
 obtain ⟨_,h1,_⟩:=ckC_zero h
 obtain ⟨_,h2,h3,_⟩:=tm_none h1
 rw [fsC_th,List.length_take,List.length_map] at h3
 have h4:(flP d (-1) 0 c.2.2.2).length≤40:=by omega
 exact ⟨h4,by rw [fsC_th,List.take_of_length_le (by rw [List.length_map];omega)]⟩
theorem right_is {d:Nat}{c:ChD d}(h:(ckC (thC d c)).2=0):Rg (flP d (-1) 0 c.2.2.2):=by
 obtain ⟨h40,hfs⟩:=right_fs h
 obtain ⟨hf,htm,hnt,hmi,has,hbw⟩:=ckC_zero h
 rw [hfs] at htm hnt hmi has hbw
 obtain ⟨_,hpos,_,_⟩:=tm_none htm
 rw [List.length_map] at hpos
 have hfm:∀ x∈flP d (-1) 0 (c.2.2.2.map (thS d)),∃ n',stF x.2.1 n' x.2.2=true:=flP_fm (by
  have hf':(plainB c.1.1 && nbB c.2.1 && c.2.2.1.all varF && (c.2.2.2.map (thS d)).all (stF d 1))=true:=hf
  simp only [Bool.and_eq_true] at hf'
  exact hf'.2)
 rw [flP_thP] at hfm
 generalize flP d (-1) 0 c.2.2.2=l at *
 have hlm:(l.map thP).length=l.length:=List.length_map ..
 refine ⟨hpos,h40,fun i hi h0=>?_,fun i hi o ho=>?_⟩
 ·have h1:=(frS_none _ _ _ 0 hmi i (by omega)).1
  rw [Nat.zero_add,atB_of (by omega),List.getElem_map] at h1
  obtain ⟨n',h2⟩:=hfm (thP l[i]) (List.mem_map.2 ⟨_,List.getElem_mem hi,rfl⟩)
  have h3:kndF (sgH (thP l[i]).2)=true:=by
   generalize thP l[i]=y at h2 ⊢
   obtain ⟨k,e,t⟩:=y
   cases e with
   | zero=>exact Empty.elim t
   | succ e=>
    simp only [stF,Bool.and_eq_true] at h2
    exact h2.1.1.2
  unfold miK at h1
  simp only [thP_i,thP_h,h0] at h1
  rw [thP_h] at h3
  have e1:stpB (sgD (thP l[i]).2)=stpB (sgD l[i].2):=by unfold sgD;rw [thP_h];rfl
  rw [e1] at h1
  obtain ⟨H,hH⟩:∃ H,sgH l[i].2=H:=⟨_,rfl⟩
  rw [hH] at h1 h3 ⊢
  simp only [Bool.or_eq_false_iff] at h1
  have h4:=h1.1.1
  have h5:(thH H).2.1.2=H.2.1.2:=rfl
  rw [h5] at h4
  obtain ⟨q,hq⟩:∃ q,stpB (sgD l[i].2)=q:=⟨_,rfl⟩
  have h6:q=true→H.2.2.1.1≠[]:=fun e e2=>by
   rw [e] at hq
   unfold stpB sgD at hq
   rw [hH,e2,ByteArray.toList_eq] at hq
   exact absurd hq (by decide)
  rw [hq] at h4 ⊢
  cases q with
  | false=>
   cases he:H.2.1.2 with
   | false=>rw [he] at h4;exact absurd h4 (by decide)
   | true=>rfl
  | true=>
   have h7:stepB (thH H)=true:=by
    have e3:stepB (thH H)=stepB H:=rfl
    rw [e3]
    unfold stepB
    have:=h6 rfl
    simp [this]
   unfold kndF at h3
   rw [if_pos h7] at h3
   simp only [Bool.and_eq_true] at h3
   have h8:(thH H).2.1.2=H.2.1.2:=rfl
   rw [h8] at h3
   have h9:=h3.1.1.1.1.2
   cases he:H.2.1.2 with
   | false=>rfl
   | true=>rw [he] at h9;exact absurd h9 (by decide)
 ·obtain ⟨j,hj,rfl⟩:=List.getElem_of_mem ho
  have hjo:j < (sgO ((l.map thP)[i]'(by omega)).2).length:=by rw [List.getElem_map,thP_o,List.length_map];exact hj
  have h1:=(frS_none _ _ _ 0 has i (by omega)).2 j hjo
  have h2:=(frS_none _ _ _ 0 hbw i (by omega)).2 j hjo
  rw [Nat.zero_add,qO_of (by omega) hjo] at h1 h2
  have eo:(sgO ((l.map thP)[i]'(by omega)).2)[j]=thO (sgO (l[i]).2)[j]:=by
   have key:∀ (L:List OnC) (hL:j < L.length),L=(sgO (l[i]).2).map thO→L[j]=thO (sgO (l[i]).2)[j]:=fun L hL e=>by subst e;exact List.getElem_map ..
   exact key _ hjo (by rw [List.getElem_map,thP_o])
  rw [eo] at h1 h2
  have et:onTg (thO (sgO (l[i]).2)[j])=onTg (sgO (l[i]).2)[j]:=rfl
  have ev:onEv (thO (sgO (l[i]).2)[j])=onEv (sgO (l[i]).2)[j]:=rfl
  rw [et] at h1 h2
  rw [ev] at h2
  generalize (sgO (l[i]).2)[j]=o at *
  unfold asB at h1
  simp only [Bool.or_eq_false_iff,decide_eq_false_iff_not,Int.not_lt] at h1
  obtain ⟨m,hm⟩:∃ m:Nat,fdS (l.map thP) (onTg o)=m:=⟨(fdS (l.map thP) (onTg o)).toNat,by omega⟩
  obtain ⟨h3,h4,h5,_⟩:=ixF_at _ _ _ m (show ixF _ _ 0=_ from hm)
  have hml:m < l.length:=by omega
  rw [atB_of (by omega),List.getElem_map,thP_n] at h5
  refine ⟨m,hml,by simpa using h5,fun hd=>?_⟩
  rw [hd,hm] at h2
  simp at h2
  exact h2
end Go.Proofs.YtlgnahpfggagoaaGreatDoor
/- The document's states, flat: what all answers. -/
namespace Go.Proofs.YtlgnahpfggagoaaGreatDoor
open Go.RowKit Go.Lib
set_option linter.unusedSimpArgs false
set_option linter.unusedVariables false
attribute [local go_sem ↓] Go.wp_at_zero Go.wp_at_succ
theorem flA_snoc (d:Nat) (rc:Int→Nat→List (St d)→List (Int × SgS)) (p:Int) (t:St (d+1)):∀ (l:List (St (d+1))) (m:Nat),flA d rc p m (l++[t])=flA d rc p m l++((p,⟨d+1,t⟩) :: rc ((m+(flA d rc p m l).length:Nat):Int) (m+(flA d rc p m l).length+1) t.2)
 | [],m=>by simp [flA]
 | x :: r,m=>by
  have h:=flA_snoc d rc p t r (m+1+(rc m (m+1) x.2).length)
  have e:m+(flA d rc p m (x :: r)).length=m+1+(rc m (m+1) x.2).length+(flA d rc p (m+1+(rc m (m+1) x.2).length) r).length:=by
   simp only [flA,List.length_cons,List.length_append]
   omega
  rw [e]
  simp only [List.cons_append,flA,h,List.append_assoc]
theorem flP_snoc (d:Nat) (p:Int) (m:Nat) (t:St (d+1)) (l:List (St (d+1))):flP (d+1) p m (l++[t])=flP (d+1) p m l++((p,⟨d+1,t⟩) :: flP d ((m+(flP (d+1) p m l).length:Nat):Int) (m+(flP (d+1) p m l).length+1) t.2):=flA_snoc d (flP d) p t l m
theorem flM_take (d:Nat) (l:List (St (d+1))) (j:Nat):(flM (d+1) 0 (l.take j)).length≤(flM (d+1) 0 l).length:=by
 have e:flM (d+1) 0 l=flM (d+1) 0 (l.take j)++flM (d+1) 0 (l.drop j):=by
  show l.flatMap _=(l.take j).flatMap _++(l.drop j).flatMap _
  rw [← List.flatMap_append,List.take_append_drop]
 rw [e,List.length_append]
 omega
def rSgD (ok:Nat→Prop) (W:World):SgS→List Value→Prop
 | ⟨d,t⟩,cs=>rStD d ok W t cs
/-- A state with the number of the one it lies in: its parts lie where they lay in W. -/
def rFl (ok:Nat→Prop) (W:World) (_:Nat→Prop) (_:World) (x:Int × SgS) (cs:List Value):Prop:=∃ cs0,rSgD ok W x.2 cs0∧cs=cs0++[.int .i64 x.1]
theorem kp_fl (ok:Nat→Prop) (W:World):Kp (rFl ok W):=fun _ _ _ _ _ _ h _=>h
theorem fl_one {ok ok':Nat→Prop}{W W':World}{x:Int × SgS}{cs:List Value}(h:rFl ok W ok' W' x cs):∀ u∈cs,u.oneCell'=true:=by
 obtain ⟨p,d,t⟩:=x
 obtain ⟨cs0,h1,rfl⟩:=h
 cases d with
 | zero=>exact Empty.elim t
 | succ d=>
  obtain ⟨so,si,rfl,h2,h3⟩:=h1
  obtain ⟨a,c,rfl,_⟩:=h2.form
  obtain ⟨a',c',rfl,_⟩:=h3.form
  intro u hu
  simp only [hdD,List.mem_append,List.mem_cons,List.not_mem_nil,or_false] at hu
  rcases hu with (rfl | rfl | rfl | rfl | rfl | rfl | rfl | rfl | rfl | rfl | rfl) | rfl <;> rfl
theorem src_own {w:World}{base e k n:Nat}{tx:TypeId}{v:Value}{xs:List Value}(h:w.ownsRow base e k v n xs) (ht:Tryz.prog.underlying tx=some (.slice e)) (h1:∀ u∈xs,u.oneCell'=true):Src Tryz.prog k tx v n xs w:=by
 have hc:=fun g=>World.ownsRow.cells h (g:=g)
 have hl:=h.1
 rcases h.2 with ⟨rfl,hn⟩ | ⟨g,cap,cur,rfl,hb,hg,hnc,hcm,hcs,htake⟩
 ·subst hn
  have hx:xs=[]:=List.eq_nil_of_length_eq_zero (by rw [hl];simp)
  subst hx
  exact Src.ofNil w ht 0
 ·exact Src.ofSlice w ht _ n cap xs hl (hc g rfl) h1
/-- Two rows as one. -/
theorem own_app {α:Type}{w:World}{base e k:Nat}{R:(Nat→Prop)→World→α→List Value→Prop}{v:Value}{l l2:List α}{qs qs2:List (List Value)}(ho:w.ownsRow base e k v (l.length+l2.length) (qs.flatten++qs2.flatten)) (h1:qs.length=l.length) (h2:qs2.length=l2.length)
  (r1:∀ (i:Nat) (h:i < l.length) (h':i < qs.length),(qs[i]).length=k∧∀ ok w,R ok w l[i] qs[i]) (r2:∀ (i:Nat) (h:i < l2.length) (h':i < qs2.length),(qs2[i]).length=k∧∀ ok w,R ok w l2[i] qs2[i]):OwnK w base e k R v (l++l2):=by
 refine ⟨qs++qs2,?_,by simp [h1,h2],fun i h h'=>?_⟩
 ·rw [List.flatten_append,List.length_append]
  exact ho
 ·by_cases hi:i < l.length
  ·rw [List.getElem_append_left (by omega),List.getElem_append_left hi]
   exact ⟨(r1 i hi (by omega)).1,(r1 i hi (by omega)).2 _ _⟩
  ·simp only [List.length_append] at h h'
   have:=r2 (i - l.length) (by omega) (by omega)
   rw [List.getElem_append_right (by omega),List.getElem_append_right (by omega)]
   simp only [h1]
   exact ⟨this.1,this.2 _ _⟩
theorem Tryz.infoFl:(Tryz.prog.info? 42).map (fun i=>(i.zero,i.size,i.bytes))=some (some (.agg #[.string ⟨#[]⟩,.int .i64 0,.int .i64 0,.bool false,.bool false,.string ⟨#[]⟩,.string ⟨#[]⟩,.int .i64 0,.int .i64 0,.slice none 0 0,.slice none 0 0,.int .i64 0]),12,144):=by kernel_rfl
theorem fl_all {ok ok':Nat→Prop}{W W':World}{l:List (Int × SgS)}{qs:List (List Value)}(h1:qs.length=l.length) (h2:∀ (i:Nat) (h:i < l.length) (h':i < qs.length),(qs[i]).length=12∧rFl ok W ok' W' l[i] qs[i]):∀ u∈qs.flatten,u.oneCell'=true:=by
 intro u hu
 obtain ⟨q,hq,hu⟩:=List.mem_flatten.1 hu
 obtain ⟨i,hi,rfl⟩:=List.getElem_of_mem hq
 exact fl_one (h2 i (by omega) hi).2 u hu
def AlC (d:Nat):Prop:=∀ (ok:Nat→Prop) (W w:World) (l:List (St d)) (v:Value) (p:Int) (m:Nat),RdK ok W 11 (rStD d ok W) l v→Below W.heap.size W w→m+(flM d 0 l).length≤100000→
 Calls Tryz.prog 14 #[v,.int .i64 p,.int .i64 (m:Int)] w fun e w'=>∃ a n c,e=.returned (.slice a n c)∧OwnK w' w.heap.size 42 12 (rFl ok W) (.slice a n c) (flP d p m l)∧Below w.heap.size w w'
set_option maxRecDepth 100000 in
set_option maxHeartbeats 16000000 in
theorem al_step (d:Nat) (IH:AlC d):AlC (d+1):=by
 intro ok W w l v p m h hW hbd
 obtain ⟨a,cap,rfl,hlc,hcm⟩:=h.form
 unfold maxLen at hcm
 have HC:=mkHid h
 have HSN:=mkHid (fun t j (hj:l.take (j+1)=l.take j++[t])=>by have:=flP_snoc d p m t (l.take j);rw [← hj] at this;exact this)
 have HLE:∀ j,(flP (d+1) p m (l.take j)).length≤(flM (d+1) 0 l).length:=fun j=>by rw [flP_len (d+1) 0];exact flM_take d l j
 have HLN:Hid (∀ (q:Nat) (x:List (St d)),(flP d (q:Int) (q+1) x).length=(flM d 0 x).length):=fun q x=>flP_len d 0 _ _ _
 obtain ⟨L,hL⟩:∃ L,(flM (d+1) 0 l).length=L:=⟨_,rfl⟩
 rw [hL] at hbd
 simp only [hL] at HLE
 obtain ⟨n,hn⟩:∃ n,l.length=n:=⟨_,rfl⟩
 rw [hn] at hlc ⊢
 have HN:Hid (l.length=n):=hn
 obtain ⟨i0,hi,hz0,hz1,hz2⟩:=info_parts Tryz.infoFl
 clear h hn hL
 go_enter Tryz.func14,Tryz.ntmps14
 go_wp2
 go_loopw [7,12] (fun t ix wr=>∃ (j:Nat),j≤n∧ix=.int .i64 (j:Int)∧OwnK wr w.heap.size 42 12 (rFl ok W) t (flP (d+1) p m (l.take j))∧Below w.heap.size w wr) (fun _ ix _=>n - (RowKit.intOf ix).toNat)
 case atStart=>exact ⟨0,Nat.zero_le _,rfl,ownK_nil _ _ _ _ _,Below.refl _ _⟩
 case round=>
  obtain ⟨j,hj,rfl,hO,hb⟩:=hrel
  obtain ⟨va,vc,hv,hvl,hvm⟩:=hO.form
  obtain ⟨q,hq⟩:∃ q,(flP (d+1) p m (l.take j)).length=q:=⟨_,rfl⟩
  have hql:=HLE j
  rw [hq] at hv hvl hql
  subst hv
  by_cases hlt:j < n
  ·have hjl:j < l.length:=by rw [HN.out];exact hlt
   have hWr:Below W.heap.size W wr:=hW.trans (hb.mono hW.size)
   obtain ⟨b,off,p1,p3,p4,p6,rfl,_,hbl,hOn,hIn,hc⟩:=stD_at HC.out j hjl
   obtain ⟨t,ht⟩:∃ t,l[j]=t:=⟨_,rfl⟩
   rw [ht] at hOn hIn hc
   have hsn:=HSN.out t j (by rw [List.take_succ_eq_append_getElem hjl,ht])
   have hle2:=HLE (j+1)
   rw [hq] at hsn
   rw [hsn,List.length_append,List.length_cons,hq,HLN.out] at hle2
   have HSN2:=mkHid hsn
   have hr0:rFl ok W (fun b=>wr.heap.size≤b) wr (p,⟨d+1,t⟩) (hdD t.1 (.slice p1 t.1.2.2.2.2.length p3) (.slice p4 t.2.length p6)++[.int .i64 p]):=⟨_,⟨_,_,rfl,hOn,hIn⟩,rfl⟩
   obtain ⟨sn,sl,sc,sb,se,sd,su,sw,sr,hsv,_,_,_⟩:=hdD_let t.1
   rw [hsv] at hc hr0
   have HR0:=mkHid hr0
   have hcall:=IH ok W
   have hIn2:=mkHid hIn
   have C0:=(hWr.cell (p:=⟨b,off+j*11+0,none⟩) hbl).trans (hc 0 _ rfl)
   have C1:=(hWr.cell (p:=⟨b,off+j*11+1,none⟩) hbl).trans (hc 1 _ rfl)
   have C2:=(hWr.cell (p:=⟨b,off+j*11+2,none⟩) hbl).trans (hc 2 _ rfl)
   have C3:=(hWr.cell (p:=⟨b,off+j*11+3,none⟩) hbl).trans (hc 3 _ rfl)
   have C4:=(hWr.cell (p:=⟨b,off+j*11+4,none⟩) hbl).trans (hc 4 _ rfl)
   have C5:=(hWr.cell (p:=⟨b,off+j*11+5,none⟩) hbl).trans (hc 5 _ rfl)
   have C6:=(hWr.cell (p:=⟨b,off+j*11+6,none⟩) hbl).trans (hc 6 _ rfl)
   have C7:=(hWr.cell (p:=⟨b,off+j*11+7,none⟩) hbl).trans (hc 7 _ rfl)
   have C8:=(hWr.cell (p:=⟨b,off+j*11+8,none⟩) hbl).trans (hc 8 _ rfl)
   have C9:=(hWr.cell (p:=⟨b,off+j*11+9,none⟩) hbl).trans (hc 9 _ rfl)
   have C10:=(hWr.cell (p:=⟨b,off+j*11+10,none⟩) hbl).trans (hc 10 _ rfl)
   rw [Nat.add_zero] at C0
   have HCX:Hid (W.cell? ⟨b,off+j*11+10,none⟩=some (.slice p4 t.2.length p6)):=hc 10 _ rfl
   obtain ⟨z,hz⟩:∃ z,t.2.length=z:=⟨_,rfl⟩
   obtain ⟨y,hy⟩:∃ y,t.1.2.2.2.2.length=y:=⟨_,rfl⟩
   rw [hz] at C10 HCX HR0
   rw [hy] at C9 HR0
   obtain ⟨M,hM⟩:∃ M,m+q=M:=⟨_,rfl⟩
   have eM:(m:Int)+(q:Int)=(M:Int):=by omega
   have i1:(j:Int) < (n:Int):=by omega
   have i2:(0:Int)≤(j:Int):=by omega
   have HQ:=mkHid hq
   clear hc hsv hOn hIn hr0 HSN HLE ht hsn hq
   go_upto_region 7 with (first
    | (at_builtin;refine wpList_pushK wr rfl _ _ 36 rfl w.heap.size 42 i0 (.agg #[.string ⟨#[]⟩,.int .i64 0,.int .i64 0,.bool false,.bool false,.string ⟨#[]⟩,.string ⟨#[]⟩,.int .i64 0,.int .i64 0,.slice none 0 0,.slice none 0 0,.int .i64 0]) 12 144 Tryz.underlying36 hi hz0 hz1 hz2 rfl (kp_fl ok W) (.slice va q vc) (flP (d+1) p m (l.take j)) (p,⟨d+1,t⟩) [.string sn,.int .i64 sl,.int .i64 sc,.bool sb,.bool se,.string sd,.string su,.int .i64 sw,.int .i64 sr,.slice p1 y p3,.slice p4 z p6,.int .i64 p] wr.heap.size rfl rfl rfl (by simp [Value.oneCell']) hO HR0.out hb.size (fun x hx=>(hO.blk x hx).2) (by rw [HQ.out];omega) (by rw [HQ.out];unfold maxLen;omega) hb.size ?_;intro vb wb hOb hgb hbb)
    | fail)
   obtain ⟨qs,ho,hqs,hqr⟩:=hOb
   obtain ⟨ua,uc,hu,hul,hum⟩:=OwnK.form ⟨qs,ho,hqs,hqr⟩
   have e1:(flP (d+1) p m (l.take j)++[(p,(⟨d+1,t⟩:SgS))]).length=q+1:=by rw [List.length_append,HQ.out];rfl
   rw [e1] at hu hul
   subst hu
   have hb2:=hb.trans hbb
   have hW2:=hW.trans (hb2.mono hW.size)
   have C10b:=(hW2.cell (p:=⟨b,off+j*11+10,none⟩) hbl).trans HCX.out
   have hcall2:=hcall wb t.2 (.slice p4 z p6) (M:Int) (M+1) (by rw [← hz];exact hIn2.out) hW2 (by omega)
   have eM1:((M+1:Nat):Int)=(M:Int)+1:=by omega
   rw [eM1] at hcall2
   have HO:=mkHid ho
   have HQS:=mkHid hqs
   have HQR:=mkHid hqr
   have HE1:=mkHid e1
   clear hcall C0 C1 C2 C3 C4 C5 C6 C7 C8 C9 C10 hO hb hWr hgb hbb ho hqs hqr e1 eM1
   go_wp2_with (first
    | (go_at_call 14;refine hcall2.mono ?_;rintro e w2 ⟨sa,sn2,sc2,rfl,⟨qs2,ho2,hqs2,hqr2⟩,b2⟩;have hok:=ownsRow_keep HO.out (fun g hg=>b2.block g (ownsRow_lt HO.out g hg).2);rw [HE1.out] at hok;have hsrc:=src_own (tx:=36) ho2 Tryz.underlying36 (fl_all hqs2 hqr2);have hln:=HLN.out M t.2;have hsb:wb.heap.size≤w2.heap.size:=b2.size;rw [hln] at hsrc)
    | (at_builtin;refine wpList_append_at _ rfl _ _ 36 36 rfl w.heap.size 42 i0 (.agg #[.string ⟨#[]⟩,.int .i64 0,.int .i64 0,.bool false,.bool false,.string ⟨#[]⟩,.string ⟨#[]⟩,.int .i64 0,.int .i64 0,.slice none 0 0,.slice none 0 0,.int .i64 0]) 12 144 Tryz.underlying36 hi hz0 hz1 hz2 rfl (.slice ua (q+1) uc) (q+1) qs.flatten rfl hok _ _ _ rfl hsrc (flM d 0 t.2).length (.inr (by omega)) (Nat.le_refl _) (by unfold maxLen;omega) (Nat.le_trans hb2.size hsb) ?_;intro vd wd hOd hgd hat)
    | fail)
   have hOe:OwnK wd w.heap.size 42 12 (rFl ok W) vd (flP (d+1) p m (l.take (j+1))):=by
    have e2:flP (d+1) p m (l.take (j+1))=(flP (d+1) p m (l.take j)++[(p,(⟨d+1,t⟩:SgS))])++flP d (M:Int) (M+1) t.2:=by
     rw [HSN2.out,hM,List.append_assoc]
     rfl
    rw [e2]
    refine own_app (qs:=qs) (qs2:=qs2) ?_ HQS.out hqs2 (fun i h h'=>⟨(HQR.out i h h').1,fun _ _=>(HQR.out i h h').2⟩) (fun i h h'=>⟨(hqr2 i h h').1,fun _ _=>(hqr2 i h h').2⟩)
    rw [HE1.out,hln]
    exact hOd
   have hbd2:Below w.heap.size w wd:=(hb2.trans (b2.mono hb2.size)).grown hgd (Nat.le_trans hb2.size hsb) (fun k hk=>(ownsRow_lt hok k hk).1)
   clear hok hsrc hOd hgd hat ho2 hqs2 hqr2
   go_wp2
   go_roundw
   case rel=>exact ⟨j+1,hlt,by go_num,hOe,hbd2⟩
   case measure=>simp [RowKit.intOf];omega
  ·have i1:¬ (j:Int) < (n:Int):=by omega
   have hjn:l.take j=l:=List.take_of_length_le (by rw [HN.out];omega)
   rw [hjn] at hO
   go_wp2
   go_ret
   exact ⟨_,_,_,rfl,hO,hb⟩
theorem al_all:∀ d,AlC d
 | 0=>by
  intro ok W w l v p m h hW hbd
  cases l with
  | cons t r=>exact Empty.elim t
  | nil=>
   obtain ⟨a,cap,rfl,hlc,hcm⟩:=h.form
   unfold maxLen at hcm
   simp only [List.length_nil] at hlc ⊢
   go_enter Tryz.func14,Tryz.ntmps14
   go_wp2
   go_loopw [7,12] (fun t ix wr=>t=.slice none 0 0∧ix=.int .i64 0∧wr=w) (fun _ _ _=>0)
   case atStart=>exact ⟨rfl,rfl,rfl⟩
   case round=>
    obtain ⟨rfl,rfl,rfl⟩:=hrel
    go_wp2
    go_ret
    exact ⟨_,_,_,rfl,ownK_nil _ _ _ _ _,Below.refl _ _⟩
 | d+1=>al_step d (al_all d)
set_option maxRecDepth 100000 in
set_option maxHeartbeats 4000000 in
theorem allD_any {ok:Nat→Prop}{W w:World}{d:Nat}{l:List (St d)}{v:Value}(h:RdK ok W 11 (rStD d ok W) l v) (hW:Below W.heap.size W w) (hn:(flM d 0 l).length≤90000) :
  Calls Tryz.prog 9 #[v] w fun e w'=>∃ a n c,e=.returned (.slice a n c)∧OwnK w' w.heap.size 42 12 (rFl ok W) (.slice a n c) (flP d (-1) 0 l)∧Below w.heap.size w w':=by
 have hc:=al_all d ok W w l v (-1) 0 h hW (by omega)
 obtain ⟨a,cap,rfl,hlc,hcm⟩:=h.form
 go_enter Tryz.func9,Tryz.ntmps9
 go_wp2_with (first | (go_at_call 14;refine hc.mono ?_;rintro e w1 ⟨ra,rn,rc,rfl,hO,b1⟩) | fail)
 go_ret
 exact ⟨_,_,_,rfl,hO,b1⟩
end Go.Proofs.YtlgnahpfggagoaaGreatDoor
/- The nodes, as the document lays them, are those that follow of how deep the states lie. -/
namespace Go.Proofs.YtlgnahpfggagoaaGreatDoor
open Go.RowKit Go.Lib
set_option linter.unusedSimpArgs false
set_option linter.unusedVariables false
end Go.Proofs.YtlgnahpfggagoaaGreatDoor
/- The document's Nodes. -/
namespace Go.Proofs.YtlgnahpfggagoaaGreatDoor
open Go.RowKit Go.Lib
set_option linter.unusedSimpArgs false
set_option linter.unusedVariables false
attribute [local go_sem ↓] Go.wp_at_zero Go.wp_at_succ
theorem sixK {W:World}{P:Nat}{c0 c1 c2 c3 c4 c5:Value}(h:Bn W P [c0,c1,c2,c3,c4,c5]):W.cell? ⟨P,0,none⟩=some c0∧W.cell? ⟨P,1,none⟩=some c1∧W.cell? ⟨P,2,none⟩=some c2∧W.cell? ⟨P,3,none⟩=some c3∧W.cell? ⟨P,4,none⟩=some c4∧W.cell? ⟨P,5,none⟩=some c5:=⟨(h 0 _ rfl).1,(h 1 _ rfl).1,(h 2 _ rfl).1,(h 3 _ rfl).1,(h 4 _ rfl).1,(h 5 _ rfl).1⟩
/-- A flat state's cells, by what is asked of it. -/
theorem fl_let {ok ok':Nat→Prop}{W w:World}{l:List (Int × SgS)}{a:Option Addr}{n cap:Nat}(h:RdK ok' w 12 (rFl ok W ok' w) l (.slice a n cap)) (j:Nat) (hj:j < l.length):∃ (b off:Nat) (sn:ByteArray) (sl sc:Int) (sb se:Bool) (sd su:ByteArray) (sw sr:Int) (p1:Option Addr) (p3:Nat) (p4:Option Addr) (p6:Nat),a=some ⟨b,off,none⟩∧b < w.heap.size∧Hid (sn=sgN (l[j]).2∧se=(sgH (l[j]).2).2.1.2∧sd=sgD (l[j]).2)∧RdK ok W 10 (rOnD ok W) (sgO (l[j]).2) (.slice p1 (sgO (l[j]).2).length p3)∧∀ i u,[.string sn,.int .i64 sl,.int .i64 sc,.bool sb,.bool se,.string sd,.string su,.int .i64 sw,.int .i64 sr,.slice p1 (sgO (l[j]).2).length p3,.slice p4 (sgI (l[j]).2) p6,.int .i64 (l[j]).1][i]?=some u→w.cell? ⟨b,off+j*12+i,none⟩=some u:=by
 obtain ⟨a1,cap1,he,h1,h2,h3⟩:=h
 simp only [Value.slice.injEq] at he
 obtain ⟨rfl,rfl,rfl⟩:=he
 obtain ⟨b,off,cs,ha,ho,hb,hl,⟨cs0,hs,rfl⟩,hc⟩:=h3 j hj
 generalize l[j]=x at *
 obtain ⟨p,e,t⟩:=x
 cases e with
 | zero=>exact Empty.elim t
 | succ e=>
  obtain ⟨so,si,rfl,ho',hi'⟩:=hs
  obtain ⟨s1,s3,rfl,_⟩:=ho'.form
  obtain ⟨s4,s6,rfl,_⟩:=hi'.form
  exact ⟨b,off,_,_,_,_,_,_,_,_,_,s1,s3,s4,s6,ha,hb,⟨rfl,rfl,rfl⟩,ho',hc⟩
end Go.Proofs.YtlgnahpfggagoaaGreatDoor
/- A chart that is right, and one state more of a name that is there. Math alone. -/
namespace Go.Proofs.YtlgnahpfggagoaaGreatDoor
open Go.RowKit Go.Lib
set_option linter.unusedSimpArgs false
set_option linter.unusedVariables false
def twX (nm:List UInt8):HdC:=((nm,(99,9)),(false,true),([],[]),(0,0),[])
def twT (e:Nat) (nm:List UInt8):St (e+1):=show HdC × List (St e) from (twX nm,[])
def twC (e:Nat) (c:ChD (e+1)) (nm:List UInt8):ChD (e+1):=(c.1,c.2.1,c.2.2.1,c.2.2.2++[twT e nm])
theorem flP_none:∀ (d:Nat) (p:Int) (m:Nat),flP d p m []=[]
 | 0,_,_=>rfl
 | _+1,_,_=>rfl
theorem flA_tw (d:Nat) (p:Int) (x:St (d+1)) (hx:x.2=[]):∀ (l:List (St (d+1))) (m:Nat),flA d (flP d) p m (l++[x])=flA d (flP d) p m l++[(p,⟨d+1,x⟩)]
 | [],m=>by
  show (p,(⟨d+1,x⟩:SgS)) :: (flP d m (m+1) x.2++[])=[(p,⟨d+1,x⟩)]
  rw [hx,flP_none]
  rfl
 | t :: r,m=>by
  have ih:=flA_tw d p x hx r (m+1+(flP d m (m+1) t.2).length)
  show (p,(⟨d+1,t⟩:SgS)) :: (flP d m (m+1) t.2++flA d (flP d) p (m+1+(flP d m (m+1) t.2).length) (r++[x]))=((p,(⟨d+1,t⟩:SgS)) :: (flP d m (m+1) t.2++flA d (flP d) p (m+1+(flP d m (m+1) t.2).length) r))++[(p,⟨d+1,x⟩)]
  rw [ih,List.cons_append,List.append_assoc]
theorem flP_tw (e:Nat) (nm:List UInt8) (l:List (St (e+1))):flP (e+1) (-1) 0 (l++[twT e nm])=flP (e+1) (-1) 0 l++[(-1,⟨e+1,twT e nm⟩)]:=flA_tw e (-1) (twT e nm) rfl l 0
theorem atB_app {α:Type}{l:List α}{y:α}{p:α→Bool}{i:Nat}(h:i < l.length):atB (l++[y]) p i=atB l p i:=by
 rw [atB_of h,atB_of (by simp;omega),List.getElem_append_left h]
theorem qO_app {l:List (Int × SgS)}{y:Int × SgS}{r:Nat→Nat→SgS→OnC→Bool}{i j:Nat}(h:i < l.length):qO (l++[y]) r i j=qO l r i j:=by
 unfold qO
 rw [atB_app h]
theorem fdS_app {l:List (Int × SgS)}{y:Int × SgS}{nm:ByteArray}{i:Nat}(hi:i < l.length) (hn:((sgN (l[i]).2).toList == nm.toList)=true):fdS (l++[y]) nm=fdS l nm∧fdS l nm≤i:=by
 have h1:atB l (fun x=>(sgN x.2).toList == nm.toList) i=true:=by rw [atB_of hi];exact hn
 obtain ⟨m,e1,_,hm,hp⟩:=ixF_some (atB l (fun x=>(sgN x.2).toList == nm.toList)) l.length 0 i (by omega) (by omega) h1
 have h2:atB (l++[y]) (fun x=>(sgN x.2).toList == nm.toList) m=true:=by rw [atB_app (by omega)];exact hp
 obtain ⟨m',e2,_,hm',hp'⟩:=ixF_some (atB (l++[y]) (fun x=>(sgN x.2).toList == nm.toList)) (l++[y]).length 0 m (by omega) (by simp;omega) h2
 obtain ⟨_,_,_,h3⟩:=ixF_at _ _ _ m e1
 have h4:m'=m:=by
  by_cases h:m' < m
  ·have:=h3 m' (by omega) h
   rw [atB_app (by omega),this] at hp'
   cases hp'
  ·omega
 subst h4
 have g1:fdS l nm=m':=e1
 have g2:fdS (l++[y]) nm=m':=e2
 exact ⟨by rw [g1,g2],by rw [g1];omega⟩
theorem tw_ck {e:Nat}{c:ChD (e+1)}(h:(ckC (thC (e+1) c)).2=0) {i0:Nat}(hi:i0 < (flP (e+1) (-1) 0 c.2.2.2).length) :
  ckC (thC (e+1) (twC e c (sgH ((flP (e+1) (-1) 0 c.2.2.2)[i0]).2).1.1))=((99,9),if (flP (e+1) (-1) 0 c.2.2.2).length=40 then 4 else 14):=by
 obtain ⟨h40,hfs⟩:=right_fs h
 obtain ⟨hf,htm,hnt,_,_,_⟩:=ckC_zero h
 rw [hfs] at htm hnt
 obtain ⟨nm,hnm⟩:∃ nm,(sgH ((flP (e+1) (-1) 0 c.2.2.2)[i0]).2).1.1=nm:=⟨_,rfl⟩
 rw [hnm]
 have hfs':fsC (thC (e+1) (twC e c nm))=(flP (e+1) (-1) 0 c.2.2.2).map thP++[(-1,⟨e+1,twT e nm⟩)]:=by
  rw [fsC_th]
  show ((flP (e+1) (-1) 0 (c.2.2.2++[twT e nm])).map thP).take 41=_
  rw [flP_tw,List.map_append,List.take_of_length_le (by simp;omega)]
  rfl
 have hfl:(plainB c.1.1 && nbB c.2.1 && c.2.2.1.all varF && (c.2.2.2.map (thS (e+1))).all (stF (e+1) 1))=true:=hf
 have hfm:=flP_fm (d:=e+1) (l:=c.2.2.2.map (thS (e+1))) (by
  simp only [Bool.and_eq_true] at hfl
  exact hfl.2)
 rw [flP_thP] at hfm
 have hpn:plainB nm=true:=by
  obtain ⟨n',h2⟩:=hfm (thP (flP (e+1) (-1) 0 c.2.2.2)[i0]) (List.mem_map.2 ⟨_,List.getElem_mem hi,rfl⟩)
  have e1:(sgH (thP (flP (e+1) (-1) 0 c.2.2.2)[i0]).2).1.1=nm:=by rw [thP_h];exact hnm
  generalize thP (flP (e+1) (-1) 0 c.2.2.2)[i0]=y at h2 e1
  obtain ⟨k,e',t⟩:=y
  cases e' with
  | zero=>exact Empty.elim t
  | succ e'=>
   simp only [stF,Bool.and_eq_true] at h2
   rw [← e1]
   exact h2.1.1.1.2
 have hf':chF (e+1) (thC (e+1) (twC e c nm))=true:=by
  show (plainB c.1.1 && nbB c.2.1 && c.2.2.1.all varF && ((c.2.2.2++[twT e nm]).map (thS (e+1))).all (stF (e+1) 1))=true
  rw [List.map_append,List.all_append,← Bool.and_assoc,hfl]
  show ((stF (e+1) 1 (twT e nm)) && true)=true
  have:stF (e+1) 1 (twT e nm)=(decide (1≤6) && plainB nm && true && true && true):=rfl
  rw [this,hpn]
  decide
 unfold ckC
 rw [if_pos hf',hfs']
 have hnl:((flP (e+1) (-1) 0 c.2.2.2).map thP).length=(flP (e+1) (-1) 0 c.2.2.2).length:=List.length_map ..
 have hi':i0 < ((flP (e+1) (-1) 0 c.2.2.2).map thP).length:=by omega
 have hnn:(sgN (((flP (e+1) (-1) 0 c.2.2.2).map thP)[i0]'hi').2)=⟨nm.toArray⟩:=by
  have hat:((flP (e+1) (-1) 0 c.2.2.2).map thP)[i0]'hi'=thP (flP (e+1) (-1) 0 c.2.2.2)[i0]:=List.getElem_map ..
  rw [hat,thP_n]
  unfold sgN
  rw [hnm]
 rw [← hnl] at h40 ⊢
 clear hnl hfs hfm
 generalize (flP (e+1) (-1) 0 c.2.2.2).map thP=l at *
 obtain ⟨h8,hpos,_,hfr⟩:=tm_none htm
 have hvars:(thC (e+1) (twC e c nm)).2.2.1=c.2.2.1:=rfl
 have e1:frS (fun i=>(i:Int) == 40) (qO (l++[(-1,⟨e+1,twT e nm⟩)]) (fun _ j _ o=>decide ((j:Int)=6) || decide (4 < o.2.2.2.1.length))) l 0=none:=frS_of _ _ l 0 (fun i hi=>by
  have:=frS_none _ _ l 0 hfr i hi
  refine ⟨this.1,fun j hj=>?_⟩
  rw [Nat.zero_add,qO_app hi]
  have:=this.2 j hj
  rwa [Nat.zero_add] at this)
 have e2:tmR (thC (e+1) (twC e c nm)) (l++[(-1,⟨e+1,twT e nm⟩)])=if l.length=40 then some (99,9) else none:=by
  unfold tmR
  rw [hvars,show c.2.2.1[8]?=none from h8]
  simp only []
  rw [if_neg (by simp),frS_app _ _ _ l 0 e1,Nat.zero_add]
  unfold frS
  by_cases h:l.length=40
  ·rw [if_pos (by simp [h]),if_pos h]
   rfl
  ·rw [if_neg (by simp;omega),if_neg h]
   rfl
 by_cases h:l.length=40
 ·rw [if_pos h]
  rw [if_pos h] at e2
  unfold rdsC
  rw [e2]
  rfl
 ·rw [if_neg h]
  rw [if_neg h] at e2
  have e3:ntR (thC (e+1) (twC e c nm)) (l++[(-1,⟨e+1,twT e nm⟩)])=some (99,9):=by
   unfold ntR at hnt ⊢
   rw [hvars]
   have hv2:(thC (e+1) c).2.2.1=c.2.2.1:=rfl
   rw [hv2] at hnt
   cases hv:ntV c.2.2.1 c.2.2.1 0 with
   | some a=>rw [hv] at hnt;cases hnt
   | none=>
    rw [hv] at hnt
    simp only [] at hnt ⊢
    have e4:frS (ntP (l++[(-1,⟨e+1,twT e nm⟩)])) (fun _ _=>false) l 0=none:=frS_of _ _ l 0 (fun i hi=>by
     refine ⟨?_,fun _ _=>rfl⟩
     have h3:=(frS_none _ _ l 0 hnt i hi).1
     rw [Nat.zero_add] at h3 ⊢
     unfold ntP at h3 ⊢
     rw [atB_of hi] at h3
     rw [atB_app hi,atB_of hi,(fdS_app hi (by simp)).1]
     exact h3)
    rw [frS_app _ _ _ l 0 e4,Nat.zero_add]
    unfold frS
    rw [if_pos]
    ·rfl
    ·unfold ntP
     rw [atB_of (by simp),List.getElem_append_right (by omega)]
     simp only [Nat.sub_self,List.getElem_cons_zero]
     have e5:sgN (⟨e+1,twT e nm⟩:SgS)=⟨nm.toArray⟩:=rfl
     rw [e5]
     have e6:=fdS_app (y:=(-1,⟨e+1,twT e nm⟩)) (nm:=⟨nm.toArray⟩) hi' (by rw [hnn];simp)
     simp only [decide_eq_true_eq]
     omega
  unfold rdsC
  rw [e2,e3]
  rfl
theorem tw_small {e:Nat}{c:ChD (e+1)}{nm:List UInt8}(h:SmCh (e+1) c) (ht:totS (e+1) c.2.2.2≤40) (hn:nm.length≤20050):SmCh (e+1) (twC e c nm):=by
 obtain ⟨h1,h2,h3,h4⟩:=h
 refine ⟨h1,h2,?_,fun t ht'=>?_⟩
 ·show totS (e+1) (c.2.2.2++[twT e nm])≤400
  rw [tot_snoc]
  have:totS e (twT e nm).2=0:=by cases e <;> rfl
  omega
 ·rcases List.mem_append.1 (show t∈c.2.2.2++[twT e nm] from ht') with h | h
  ·exact h4 t h
  ·rw [List.mem_singleton.1 h]
   exact ⟨⟨hn,Nat.zero_le _,Nat.zero_le _,Nat.zero_le _,fun o ho=>(by cases ho)⟩,fun x hx=>(by cases hx)⟩
theorem tw_wf {e:Nat}{c:ChD (e+1)}{nm:List UInt8}(h:WfC (e+1) c) (hl:c.2.2.2.length≤400) (hn:nm.length≤20050):WfC (e+1) (twC e c nm):=by
 obtain ⟨h1,h2,h3,h4⟩:=h
 refine ⟨h1,h2,?_,fun t ht'=>?_⟩
 ·show (c.2.2.2++[twT e nm]).length≤_
  simp
  omega
 ·rcases List.mem_append.1 (show t∈c.2.2.2++[twT e nm] from ht') with h | h
  ·exact h4 t h
  ·rw [List.mem_singleton.1 h]
   exact ⟨(by show (Lit.int .i64 0).wf=true;decide),(by show (Lit.int .i64 0).wf=true;decide),⟨by show nm.length≤_;omega,Nat.zero_le _,Nat.zero_le _,Nat.zero_le _,fun o ho=>(by cases ho)⟩,Nat.zero_le _,fun x hx=>(by cases hx)⟩
end Go.Proofs.YtlgnahpfggagoaaGreatDoor
