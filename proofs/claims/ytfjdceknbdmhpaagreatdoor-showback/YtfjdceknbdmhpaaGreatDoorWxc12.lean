import Derived.Test.YtfjdceknbdmhpaaGreatDoorWxc11
import Derived.Test.YtfjdceknbdmhpaaGreatDoorWxc09
import Derived.Test.YtfjdceknbdmhpaaGreatDoorWxc04
import Derived.Deep.RegionHeldLaw
set_option maxRecDepth 100000
set_option maxHeartbeats 32000000
namespace Go.Proofs.YtfjdceknbdmhpaaGreatDoor
open Go.RowKit Go.Lib
set_option linter.unusedSimpArgs false
set_option linter.unusedVariables false
attribute [local go_sem ↓] Go.wp_at_zero Go.wp_at_succ
theorem varB_at {B:Nat}{w:World}{l:List (List UInt8 × Int × Pl)}{a:Option Addr}{n cap:Nat}(h:RdK (fun x=>x < B) w 4 (rVar (fun x=>x < B) w) l (.slice a n cap)) (j:Nat) (hj:j < l.length):∃ b off,a=some ⟨b,off,none⟩/\b < B/\∀ i u,(varV l[j])[i]?=some u->w.cell? ⟨b,off+j*4+i,none⟩=some u:=by
 obtain ⟨a1,cap1,he,h1,h2,h3⟩:=h
 simp only [Value.slice.injEq] at he
 obtain ⟨rfl,rfl,rfl⟩:=he
 obtain ⟨b,off,cs,ha,hb,_,hl,hr,hc⟩:=h3 j hj
 have hr:cs=varV l[j]:=hr
 subst hr
 exact ⟨b,off,ha,hb,hc⟩
theorem znW_len {n:Int}(h : -1000000000<=n/\n<=1000000000):(znW n).length<=11:=by
 unfold znW
 split
 ·have:=dc_len (n:=-n) (by omega)
  simp only [List.length_cons];omega
 ·have:=dc_len (n:=n) (by omega)
  omega
theorem wchart_walk {d B b:Nat}{l:List UInt8}{w:World}(c:ChG d) (s0:ByteArray) (vn pl pc:Int) (p1:Option Addr) (nv p3:Nat) (p4:Option Addr) (ni p6:Nat) (h:Wr B b l w) (hBw:B<=w.heap.size) (es:bl s0=c.1.1) (ev:vn=c.2.1) (hv:RdK (fun x=>x < B) w 4 (rVar (fun x=>x < B) w) c.2.2.1 (.slice p1 nv p3)) (hnv:c.2.2.1.length=nv) (hs:RdK (fun x=>x < B) w 11 (rSt d (fun x=>x < B) w) c.2.2.2 (.slice p4 ni p6)) (hf:chF d c=true) (hc:∀ t∈c.2.2.2,StCl d t) (hp:∀ w1,Below B w w1->Pow w1) :
  Calls Tryz.prog 44 #[.pointer (some ⟨b,0,none⟩),.agg #[.string s0,.int .i64 vn,.int .i64 pl,.int .i64 pc,.slice p1 nv p3,.slice p4 ni p6]] w fun e w'=>e=.returned (.tuple #[])/\Wx B b ((chW d c).foldl wpL l) w w':=by
 obtain ⟨f1,f2,f3,f4⟩:=chF_parts hf
 have hal:Below w.heap.size w (w.alloc (.cells #[.string s0,.int .i64 vn,.int .i64 pl,.int .i64 pc,.slice p1 nv p3,.slice p4 ni p6] 33)):=(Below.refl w.heap.size w).alloc Nat.le.refl _
 have hX:Bn (w.alloc (.cells #[.string s0,.int .i64 vn,.int .i64 pl,.int .i64 pc,.slice p1 nv p3,.slice p4 ni p6] 33)) w.heap.size [.string s0,.int .i64 vn,.int .i64 pl,.int .i64 pc,.slice p1 nv p3,.slice p4 ni p6]:=Bn.new w [.string s0,.int .i64 vn,.int .i64 pl,.int .i64 pc,.slice p1 nv p3,.slice p4 ni p6] 33 _ rfl
 have hO:(w.alloc (.cells #[.string s0,.int .i64 vn,.int .i64 pl,.int .i64 pc,.slice p1 nv p3,.slice p4 ni p6] 33)).heap[w.heap.size]?=some (.cells #[.string s0,.int .i64 vn,.int .i64 pl,.int .i64 pc,.slice p1 nv p3,.slice p4 ni p6] 33 (0,0)):=blk_new _ _
 have hBx:B<=(w.alloc (.cells #[.string s0,.int .i64 vn,.int .i64 pl,.int .i64 pc,.slice p1 nv p3,.slice p4 ni p6] 33)).heap.size:=Nat.le_trans hBw hal.size
 have hk0:Wx B b l w (w.alloc (.cells #[.string s0,.int .i64 vn,.int .i64 pl,.int .i64 pc,.slice p1 nv p3,.slice p4 ni p6] 33)):=⟨Wr.below h hal,hal.mono hBw,others_below hal⟩
 have HKW:Hid (Wx B b l w (w.alloc (.cells #[.string s0,.int .i64 vn,.int .i64 pl,.int .i64 pc,.slice p1 nv p3,.slice p4 ni p6] 33))):=hk0
 have k:Wx B b l (w.alloc (.cells #[.string s0,.int .i64 vn,.int .i64 pl,.int .i64 pc,.slice p1 nv p3,.slice p4 ni p6] 33)) (w.alloc (.cells #[.string s0,.int .i64 vn,.int .i64 pl,.int .i64 pc,.slice p1 nv p3,.slice p4 ni p6] 33)):=⟨hk0.1,Below.refl _ _,Lib.OthersKept.refl _ _ _⟩
 have hbS:b≠w.heap.size:=Nat.ne_of_lt h.lt
 have hnb:0<=vn/\vn<=1000000000:=nb_of (by rw [ev];exact f2)
 have zs:s0.size<=1000:=plain_sz (by rw [es];exact f1)
 obtain ⟨t1,ht1,e1,z1⟩:=letter_of (dcN vn)
 have zz1:=dc_len hnb
 obtain ⟨x1,q1,s1,a1⟩:=add_ex ⟨#[99,104,97,114,116,32]⟩ s0 (by show 6+_<=_;omega)
 have g1:(⟨#[99,104,97,114,116,32]⟩:ByteArray).size=6:=rfl
 obtain ⟨x2,q2,s2,a2⟩:=add_ex x1 ⟨#[32]⟩ (by show _+1<=_;omega)
 have g2:(⟨#[32]⟩:ByteArray).size=1:=rfl
 obtain ⟨x3,q3,s3,a3⟩:=add_ex x2 t1 (by omega)
 obtain ⟨x4,q4,s4,a4⟩:=add_ex x3 ⟨#[32,123]⟩ (by show _+2<=_;omega)
 have g4:(⟨#[32,123]⟩:ByteArray).size=2:=rfl
 have ql:bl x4=chnW c.1.1 c.2.1:=by rw [q4,q3,q2,q1,e1,es,ev];rfl
 have zl:x4.size<=140737488340000:=by omega
 have zl2:(⟨#[125]⟩:ByteArray).size<=140737488340000:=by decide
 obtain ⟨_,_,heo,hco,hmo⟩:=hv.form
 simp only [Value.slice.injEq] at heo
 obtain ⟨rfl,hx0,rfl⟩:=heo
 clear hx0
 rw [hnv] at hco
 unfold maxLen at hmo
 have HFIN:Hid ((chW d c).foldl wpL l=wlL (((c.2.2.2.map (stW d 1)).flatten).foldl wpL ((((c.2.2.1.take nv).map varW).flatten).foldl wpL (wlL l 0 (bl x4)))) 0 (bl ⟨#[125]⟩)):=by
  show _=_
  rw [ql,List.take_of_length_le (by omega)]
  show (lnW 0 (chnW c.1.1 c.2.1)++((c.2.2.1.map varW).flatten++((c.2.2.2.map (stW d 1)).flatten++lnW 0 [125]))).foldl wpL l=_
  rw [List.foldl_append,List.foldl_append,List.foldl_append]
  rfl
 have HV:=mkHid hv
 have HVF:Hid (∀ v∈c.2.2.1,varF v=true):=fun v hv=>List.all_eq_true.1 f3 v hv
 have HNV:Hid (c.2.2.1.length=nv):=hnv
 have HST:Hid (∀ (l1:List UInt8) (w1:World),Wx B b l1 w w1->Calls Tryz.prog 80 #[.pointer (some ⟨b,0,none⟩),.int .i64 1,.slice p4 ni p6] w1 fun e w'=>e=.returned (.tuple #[])/\Wx B b (((c.2.2.2.map (stW d 1)).flatten).foldl wpL l1) w1 w'):=fun l1 w1 k1=>wsts_any d B b l1 w1 1 c.2.2.2 _ k1.1 (Nat.le_trans hBw k1.2.1.size) (by omega) (hs.bel (kp_st d) k1.2.1) (fun t ht=>⟨List.all_eq_true.1 f4 t ht,hc t ht⟩) (fun w2 b2=>hp w2 (k1.2.1.trans b2))
 have HP:=mkHid hp
 clear q1 q2 q3 q4 s1 s2 s3 s4 g1 g2 g4 e1 z1 zz1 zs es ev f1 f2 f3 f4 h hk0 hs hv hf hc hp hnv ql
 go_enter Tryz.func44,Tryz.ntmps44
 go_upto_region 1 with fail
 generalize (w.alloc (.cells #[.string s0,.int .i64 vn,.int .i64 pl,.int .i64 pc,.slice p1 nv p3,.slice p4 ni p6] 33))=wx at *
 have c0:=(hX 0 _ rfl).1
 have c1:=(hX 1 _ rfl).1
 have c4:=(hX 4 _ rfl).1
 have c5:=(hX 5 _ rfl).1
 have hlt:=hX.lt
 clear hX hal
 obtain ⟨S,hS⟩:∃ S,w.heap.size=S:=⟨_,rfl⟩
 rw [hS] at c0 c1 c4 c5 hlt hO hbS ⊢
 clear hS hBw
 have i1:∀ w1,Below wx.heap.size wx w1->Calls Tryz.prog 47 #[.int .i64 vn] w1 fun e w'=>e=.returned (.string t1)/\Below w1.heap.size w1 w':=fun w1 bb=>by
  rw [<- ht1];exact itoa_any hnb.1 hnb.2 w1 (HP.out w1 (HKW.out.2.1.trans (bb.mono hBx)))
 have hl:∀ w1,Below wx.heap.size wx w1->Calls Tryz.prog 79 #[.pointer (some ⟨b,0,none⟩),.int .i64 0,.string x4] w1 fun e w'=>e=.returned (.tuple #[])/\Wx B b (wlL l 0 (bl x4)) wx w'/\w'.heap[S]?=wx.heap[S]?:=fun w1 bb=>by
  have hk:=k.on hBx bb
  refine (line_any 0 x4 hk.1 (by omega) zl (Nat.le_trans hBx hk.2.1.size)).mono ?_
  rintro e w' ⟨he,hw⟩
  have h3:=bb.block S hlt
  exact ⟨he,hk.trans hw,(keepX hw.2.2 (h3.trans hO) hbS (by decide)).trans h3⟩
 clear k
 have hB:Below wx.heap.size wx wx:=Below.refl _ _
 have y0:=c0
 have y1:=c1
 go_region_held_law (fun w'=>w'.cell? ⟨S,0,none⟩=some (.string s0)/\w'.cell? ⟨S,1,none⟩=some (.int .i64 vn))
  ((refine ⟨?_,?_⟩<;>(repeat (with_reducible first|exact y0|exact y1|refine cell_dr ?_))<;>done))
  (first
   | (go_at_call 47;(with_reducible first|refine (i1 _ hB).mono ?_|refine (i1 _ hB.drew).mono ?_);rintro e w1 ⟨rfl,b1⟩;(first|have hB:=Below.nxd hB b1|have hB:=Below.nx hB b1);have y0:=(hB.cell (p:=⟨S,0,none⟩) hlt).trans c0;have y1:=(hB.cell (p:=⟨S,1,none⟩) hlt).trans c1)
   | (go_at_call 79;(with_reducible first|refine (hl _ hB).mono ?_|refine (hl _ hB.drew).mono ?_);rintro e w1 ⟨rfl,k,kb⟩;have y0:=keep_cell (p:=⟨S,0,none⟩) kb c0;have y1:=keep_cell (p:=⟨S,1,none⟩) kb c1;have y4:=keep_cell (p:=⟨S,4,none⟩) kb c4)
   | fail)
 all_goals (
  clear y0 y1 i1 hl hB kb
  go_wp2
  obtain ⟨L1,hL1⟩:∃ L,wlL l 0 (bl x4)=L:=⟨_,rfl⟩
  rw [hL1] at k
  have HF1:=HFIN.out
  rw [hL1] at HF1
  have HF2:=mkHid HF1
  clear hL1 HF1
  go_loopw [20] (fun ix wr=>∃ (i:Nat),i<=nv/\ix=.int .i64 (i:Int)/\Wx B b ((((c.2.2.1.take i).map varW).flatten).foldl wpL L1) wx wr) (fun ix _=>nv - (RowKit.intOf ix).toNat)
  case atStart=>exact ⟨0,Nat.zero_le _,rfl,k⟩
  case round=>
   clear k
   obtain ⟨i,hi,rfl,k⟩:=hrel
   by_cases hlti:i < nv
   ·have hil:i < c.2.2.1.length:=by rw [HNV.out];exact hlti
    obtain ⟨bb,off,rfl,hbb,hc⟩:=varB_at HV.out i hil
    have hvf:=HVF.out _ (List.getElem_mem hil)
    have htk:(((c.2.2.1.take (i+1)).map varW).flatten).foldl wpL L1=(varW c.2.2.1[i]).foldl wpL ((((c.2.2.1.take i).map varW).flatten).foldl wpL L1):=by
     rw [List.take_succ_eq_append_getElem hil,List.map_append,List.flatten_append,List.foldl_append]
     simp
    obtain ⟨q,hq⟩:∃ q,c.2.2.1[i]=q:=⟨_,rfl⟩
    rw [hq] at hc hvf htk
    unfold varF at hvf
    simp only [Bool.and_eq_true,decide_eq_true_eq] at hvf
    obtain ⟨hv1,hv2⟩:=hvf
    obtain ⟨s2,es2,eb2,ez2⟩:=letter_of q.1
    obtain ⟨x,hx⟩:∃ x,q.2.1=x:=⟨_,rfl⟩
    obtain ⟨vl,hvl⟩:∃ x,q.2.2.1=x:=⟨_,rfl⟩
    obtain ⟨vc,hvc⟩:∃ x,q.2.2.2=x:=⟨_,rfl⟩
    have hov:varV q=[.string s2,.int .i64 x,.int .i64 vl,.int .i64 vc]:=by unfold varV sV;rw [es2,hx,hvl,hvc]
    rw [hov] at hc
    rw [hx] at hv2
    have zs2:s2.size<=1000:=plain_sz (by rw [eb2];exact hv1)
    obtain ⟨t2,ht2,e2,z2⟩:=letter_of (znW x)
    have zz2:=znW_len hv2
    obtain ⟨u1,q1,r1,d1⟩:=add_ex ⟨#[118,97,114,32]⟩ s2 (by show 4+_<=_;omega)
    have g1:(⟨#[118,97,114,32]⟩:ByteArray).size=4:=rfl
    obtain ⟨u2,q2,r2,d2⟩:=add_ex u1 ⟨#[32,61,32]⟩ (by show _+3<=_;omega)
    have g2:(⟨#[32,61,32]⟩:ByteArray).size=3:=rfl
    obtain ⟨u3,q3,r3,d3⟩:=add_ex u2 t2 (by omega)
    have zu:u3.size<=140737488340000:=by omega
    obtain ⟨L2,hL2⟩:∃ L,(((c.2.2.1.take i).map varW).flatten).foldl wpL L1=L:=⟨_,rfl⟩
    rw [hL2] at k htk
    have HT2:Hid ((((c.2.2.1.take (i+1)).map varW).flatten).foldl wpL L1=wlL L2 1 (bl u3)):=by
     show _=_
     rw [htk,q3,q2,q1,e2,eb2,<- hx]
     rfl
    clear q1 q2 q3 r1 r2 r3 g1 g2 e2 z2 zz2 zs2 hov hvl hvc hx es2 eb2 ez2 htk hL2 hq hv1
    have i1:(i:Int) < (nv:Int):=by omega
    have i2:(0:Int)<=(i:Int):=by omega
    have C0:=((HKW.out.2.1.trans k.2.1).cell (p:=⟨bb,off+i*4+0,none⟩) hbb).trans (hc 0 _ rfl)
    have C1:=((HKW.out.2.1.trans k.2.1).cell (p:=⟨bb,off+i*4+1,none⟩) hbb).trans (hc 1 _ rfl)
    have C2:=((HKW.out.2.1.trans k.2.1).cell (p:=⟨bb,off+i*4+2,none⟩) hbb).trans (hc 2 _ rfl)
    have C3:=((HKW.out.2.1.trans k.2.1).cell (p:=⟨bb,off+i*4+3,none⟩) hbb).trans (hc 3 _ rfl)
    rw [Nat.add_zero] at C0
    clear hc
    have hal:Below wr.heap.size wr (wr.alloc (.cells #[.string s2,.int .i64 x,.int .i64 vl,.int .i64 vc] 59)):=(Below.refl _ _).alloc Nat.le.refl _
    have hX:Bn (wr.alloc (.cells #[.string s2,.int .i64 x,.int .i64 vl,.int .i64 vc] 59)) wr.heap.size [.string s2,.int .i64 x,.int .i64 vl,.int .i64 vc]:=Bn.new wr [.string s2,.int .i64 x,.int .i64 vl,.int .i64 vc] 59 _ rfl
    have hOv:(wr.alloc (.cells #[.string s2,.int .i64 x,.int .i64 vl,.int .i64 vc] 59)).heap[wr.heap.size]?=some (.cells #[.string s2,.int .i64 x,.int .i64 vl,.int .i64 vc] 59 (0,0)):=blk_new _ _
    have hbR:b≠wr.heap.size:=Nat.ne_of_lt k.1.lt
    have kx:=k.on hBx hal
    go_upto_region 5 with fail
    clear C0 C1 C2 C3
    generalize (wr.alloc (.cells #[.string s2,.int .i64 x,.int .i64 vl,.int .i64 vc] 59))=wy at *
    have hln:∀ w1,Below wy.heap.size wy w1->Calls Tryz.prog 79 #[.pointer (some ⟨b,0,none⟩),.int .i64 1,.string u3] w1 fun e w'=>e=.returned (.tuple #[])/\Wx B b (wlL L2 1 (bl u3)) wx w'/\w'.heap[wr.heap.size]?=wy.heap[wr.heap.size]?:=fun w1 b1=>by
     have hk:=kx.on hBx b1
     refine (line_any 1 u3 hk.1 (by omega) zu (Nat.le_trans hBx hk.2.1.size)).mono ?_
     rintro e w' ⟨he,hw⟩
     have h3:=b1.block wr.heap.size hX.lt
     exact ⟨he,hk.trans hw,(keepX hw.2.2 (h3.trans hOv) hbR (by decide)).trans h3⟩
    have hfm:∀ w1,Below wy.heap.size wy w1->Calls Tryz.prog 48 #[.int .i64 x,.int .i64 10] w1 fun e w'=>e=.returned (.string t2)/\Below w1.heap.size w1 w':=fun w1 b1=>by
     rw [<- ht2];exact fmtZ_any hv2.1 hv2.2 w1 (HP.out w1 (HKW.out.2.1.trans (kx.on hBx b1).2.1))
    have c0:=(hX 0 _ rfl).1
    have c1:=(hX 1 _ rfl).1
    have hlt:=hX.lt
    obtain ⟨R,hR⟩:∃ R,wr.heap.size=R:=⟨_,rfl⟩
    rw [hR] at c0 c1 hlt ⊢
    simp only [hR] at hln
    clear k kx hX hOv hal hR ht2
    have hB:Below wy.heap.size wy wy:=Below.refl _ _
    have y0:=c0
    have y1:=c1
    go_region_held_law (fun w'=>w'.cell? ⟨R,0,none⟩=some (.string s2)/\w'.cell? ⟨R,1,none⟩=some (.int .i64 x))
     ((refine ⟨?_,?_⟩<;>(repeat (with_reducible first|exact y0|exact y1|refine cell_dr ?_))<;>done))
     (first
      | (go_at_call 48;(with_reducible first|refine (hfm _ hB).mono ?_|refine (hfm _ hB.drew).mono ?_);rintro e w1 ⟨rfl,b1⟩;(first|have hB:=Below.nxd hB b1|have hB:=Below.nx hB b1);have y0:=(hB.cell (p:=⟨R,0,none⟩) hlt).trans c0;have y1:=(hB.cell (p:=⟨R,1,none⟩) hlt).trans c1)
      | (go_at_call 79;(with_reducible first|refine (hln _ hB).mono ?_|refine (hln _ hB.drew).mono ?_);rintro e w1 ⟨rfl,k,kb⟩;have y0:=keep_cell (p:=⟨R,0,none⟩) kb c0;have y1:=keep_cell (p:=⟨R,1,none⟩) kb c1)
      | fail)
    all_goals (
     rw [<- HT2.out] at k
     go_wp2
     go_roundw
     case rel=>exact ⟨i+1,hlti,by go_num,k⟩
     case measure=>simp [RowKit.intOf];omega)
   ·have i1:¬ (i:Int) < (nv:Int):=by omega
    obtain rfl:i=nv:=by omega
    have y5:=keep_cell (p:=⟨S,5,none⟩) (keepX k.2.2 hO hbS (by decide)) c5
    have hline:∀ t l' w1,Wx B b l' wx w1->t.size<=140737488340000->Calls Tryz.prog 79 #[.pointer (some ⟨b,0,none⟩),.int .i64 0,.string t] w1 fun e w'=>e=.returned (.tuple #[])/\Wx B b (wlL l' 0 (bl t)) wx w':=fun t l' w1 k ht=>lineX (B:=B) (b:=b) (w:=wx) hBx 0 t l' w1 k (by omega) ht
    have hstates:∀ (l1:List UInt8) (w1:World),Wx B b l1 wx w1->Calls Tryz.prog 80 #[.pointer (some ⟨b,0,none⟩),.int .i64 1,.slice p4 ni p6] w1 fun e w'=>e=.returned (.tuple #[])/\Wx B b (((c.2.2.2.map (stW d 1)).flatten).foldl wpL l1) wx w':=fun l1 w1 k1=>(HST.out l1 w1 (HKW.out.trans k1)).mono (fun e w' hh=>⟨hh.1,k1.trans hh.2⟩)
    go_wp2_with (first
     | (go_at_call 80;refine (hstates _ _ k).mono ?_;clear k;rintro e w2 ⟨rfl,k⟩)
     | (go_at_call 79;refine (hline _ _ _ k (by assumption)).mono ?_;clear k;rintro e w2 ⟨rfl,k⟩)
     | fail)
    go_end0
    rw [<- HF2.out] at k
    exact ⟨rfl,HKW.out.trans k⟩)
theorem Tryz.undPu8:Tryz.prog.underlying 147=some (.pointer 5):=by kernel_rfl
theorem Tryz.cellsU8:Tryz.prog.cellsOf 5=1:=by kernel_rfl
theorem wr_row {B b:Nat}{l:List UInt8}{w:World}(h:Wr B b l w) (h0:l≠[]):∃ p g cap cur fz,w.heap[b]?=some (.cells #[p,.slice (some ⟨g,0,none⟩) l.length cap] 80 (0,0))/\B<=g/\w.heap[g]?=some (.cells cur 5 fz)/\l.length<=cap/\cap<=maxLen/\cur.size=cap*1/\w.ownsRowF B 5 1 (.slice (some ⟨g,0,none⟩) l.length cap) l.length (Lib.byteCells l):=by
 have key:∀ p,Lib.BuilderAtF 80 5 B b p (Lib.byteCells l) w->∃ p g cap cur fz,w.heap[b]?=some (.cells #[p,.slice (some ⟨g,0,none⟩) l.length cap] 80 (0,0))/\B<=g/\w.heap[g]?=some (.cells cur 5 fz)/\l.length<=cap/\cap<=maxLen/\cur.size=cap*1/\w.ownsRowF B 5 1 (.slice (some ⟨g,0,none⟩) l.length cap) l.length (Lib.byteCells l):=by
  rintro p ⟨_,v,hb,ho,_⟩
  rw [Lib.byteCells_length] at ho
  rcases ho.2 with ⟨_,hz⟩|⟨g,cap,cur,fz,hv,h1,h2,_,h4,h5,h6,_⟩
  ·exact absurd (List.length_eq_zero_iff.1 hz) h0
  ·subst hv
   exact ⟨p,g,cap,cur,fz,hb,h1,h2,h4,h5,h6,ho⟩
 exact h.elim (key _) (key _)
theorem wString_any {B b:Nat}{l:List UInt8}{w:World}(h:Wr B b l w) (h0:l≠[]) :
  Calls Tryz.prog 45 #[.pointer (some ⟨b,0,none⟩)] w fun e w'=>e=.returned (.string ⟨l.toArray⟩)/\Below B w w':=by
 obtain ⟨p,g,cap,cur,fz,hb,hBg,hg,hc,hcm,hcs,ho⟩:=wr_row h h0
 have hn:0 < l.length:=List.length_pos_iff.2 h0
 have c1:w.drew.cell? ⟨b,1,none⟩=some (.slice (some ⟨g,0,none⟩) l.length cap):=by
  rw [Lib.cell_of_heap (show w.drew.heap[b]?=_ from hb)];rfl
 have d1:(Builtin.unsafeSliceData_ #[76] 147 #[.slice (some ⟨g,0,none⟩) l.length cap]).run Tryz.prog w.drew=.ok (.pointer (some ⟨g,0,none⟩)) w.drew:=Lib.run_unsafeSliceData_row _ _ _ _ _ _ (by omega)
 have hsh:w.drew.shape? g=some (5,cur.size):=by
  have h2:w.drew.heap[g]?=some (.cells cur 5 fz):=hg
  simp [World.shape?,h2]
 have d2:(Builtin.unsafeString_ #[147,3] 9 #[.pointer (some ⟨g,0,none⟩),.int .i64 l.length]).run Tryz.prog w.drew=.ok (.string ⟨l.toArray⟩) (w.drew.freeze ⟨g,0,none⟩ l.length):=
  Lib.run_unsafeString_row w.drew 147 3 9 5 Tryz.undPu8 Tryz.cellsU8 g cur.size hsh l h0 (by omega) (by unfold maxLen at hcm;omega) (fun j x hx=>ho.cells (g:=g) rfl j (.int .u8 x.toNat) (by simp [Lib.byteCells,hx]))
 have mixed:Tryz.prog.follows Departure.mixedOrders=true:=by kernel_rfl
 clear h hb ho hsh hg
 go_enter Tryz.func45,Tryz.ntmps45
 go_wp2
 go_region_o
 all_goals (
  go_wp2
  go_ret
  exact ⟨rfl,Lib.below_freeze (Below.drew (Below.refl B w)) (p:=⟨g,0,none⟩) hBg _⟩)
structure Inn (l:List UInt8) (k j p:Nat):Prop where
 cnt:j<=(runes (l.drop k)).length
 size:k+(byt ((runes (l.drop k)).take j)).length=p
 no10:∀ v∈(runes (l.drop k)).take j,v.1≠10
theorem Inn.zero (l:List UInt8) (k:Nat):Inn l k 0 k:=⟨Nat.zero_le _,rfl,fun v hv=>by simp at hv⟩
theorem Inn.le {l:List UInt8}{k j p:Nat}(h:Inn l k j p) (hk:k<=l.length):p<=l.length:=by
 have h1:=byt_split (runes (l.drop k)) j
 rw [byt_runes _ _ Nat.le.refl,List.length_drop] at h1
 have:=h.size
 omega
theorem Inn.start {l:List UInt8}{k m:Nat}(hk:k < l.length) (hm:1<=m) (hm2:m<=(runes (l.drop k)).length) (hn:∀ v∈(runes (l.drop k)).take m,v.1≠10∨m=1) :
  Inn l (k+(nx (l.drop k)).2) (m - 1) (k+(byt ((runes (l.drop k)).take m)).length):=by
 have hne:=drop_ne hk
 have hc:=runes_cons hne
 have hle:=nx_le hne
 obtain ⟨j,rfl⟩:∃ j,m=j+1:=⟨m - 1,by omega⟩
 rw [List.drop_drop] at hc
 rw [hc] at hm2 hn ⊢
 rw [List.take_succ_cons] at hn ⊢
 simp only [Nat.add_sub_cancel]
 refine ⟨by simpa using hm2,?_,fun v hv=>?_⟩
 ·rw [byt_cons,List.length_append,List.length_take,Nat.min_eq_left hle]
  omega
 ·rcases hn v (by simp [hv]) with h|h
  ·exact h
  ·have:j=0:=by omega
   subst this
   simp at hv
theorem Inn.step {l:List UInt8}{k j p:Nat}(hk:k < l.length) (h:Inn l k (j+1) p):Inn l (k+(nx (l.drop k)).2) j p/\(nx (l.drop k)).1≠10/\k < p:=by
 have hne:=drop_ne hk
 have hc:=runes_cons hne
 have hle:=nx_le hne
 have hps:=nx_pos hne
 rw [List.drop_drop] at hc
 obtain ⟨h1,h2,h3⟩:=h
 rw [hc] at h1 h2 h3
 rw [List.take_succ_cons] at h2 h3
 rw [byt_cons,List.length_append,List.length_take,Nat.min_eq_left hle] at h2
 exact ⟨⟨by simpa using h1,by omega,fun v hv=>h3 v (List.mem_cons_of_mem _ hv)⟩,h3 _ List.mem_cons_self,by omega⟩
theorem runes_tail {l:List UInt8}{k:Nat}(hk:k < l.length) (j:Nat):(runes (l.drop k)).drop (j+1)=(runes (l.drop (k+(nx (l.drop k)).2))).drop j:=by
 rw [runes_cons (drop_ne hk),List.drop_succ_cons,List.drop_drop]
theorem pc_le {l:List UInt8}(hl:l≠[]) (h:rightS (pc l).1 (l.take (pcB l))=true):1<=(pc l).2/\(pc l).2<=(runes l).length/\∀ v∈(runes l).take (pc l).2,v.1≠10∨(pc l).2=1:=by
 have hc:=runes_cons hl
 by_cases c1:(nx l).1=32∨(nx l).1=9∨(nx l).1=10
 ·have hp:pc l=(0,1):=by unfold pc;rw [if_pos c1]
  rw [hp]
  exact ⟨Nat.le_refl _,by rw [hc];simp,fun _ _=>.inr rfl⟩
 by_cases c2:(nx l).1=35
 ·have hp:pc l=(0,rest (runes l)):=by unfold pc;rw [if_neg c1,if_pos c2]
  rw [hp]
  refine ⟨?_,rest_le _,fun v hv=>.inl (rest_no10 _ v hv)⟩
  rw [hc]
  exact rest_pos (by simp only;omega)
 obtain ⟨k1,k2,_⟩:=right_word hl (by omega) (by omega) c2
 have e:=k2 h
 have h0:(fst1 (runes l)).1≠0:=by rw [e];omega
 have hle:1<=(fst1 (runes l)).2/\(fst1 (runes l)).2<=(runes l).length:=by rw [hc] at h0 ⊢;exact fst1_le _ _ h0
 rw [e] at hle
 refine ⟨hle.1,hle.2,?_⟩
 have hp:pc l=if letter (nx l).1=true then (1,spn (runes l)) else if dgt (nx l).1=true then (2,spn (runes l)) else (3,sgn (runes l)):=by
  unfold pc
  rw [if_neg c1,if_neg c2]
 rw [hp]
 split
 ·exact fun v hv=>.inl (spn_no10 v hv)
 ·split
  ·exact fun v hv=>.inl (spn_no10 v hv)
  ·exact fun v hv=>.inl (sgn_no10 _ v hv)
theorem txt_at (s:ByteArray) (k m:Nat):s.extract k (k+(byt ((runes ((bl s).drop k)).take m)).length)=txt ((runes ((bl s).drop k)).take m):=by
 have h1:bl (s.extract k (k+(byt ((runes ((bl s).drop k)).take m)).length))=((bl s).drop k).take (byt ((runes ((bl s).drop k)).take m)).length:=by
  show (s.extract k _).data.toList=_
  rw [Lib.extract_data]
  congr 1
  omega
 have e2:byt ((runes ((bl s).drop k)).take m)++byt ((runes ((bl s).drop k)).drop m)=(bl s).drop k:=by rw [<- byt_append,List.take_append_drop,byt_runes _ _ Nat.le.refl]
 have e3:∀ (a b l:List UInt8),a++b=l->l.take a.length=a:=fun a b l h=>by rw [<- h];exact List.take_left
 rw [e3 _ _ _ e2] at h1
 have h2:∀ (t:ByteArray) (x:List UInt8),bl t=x->t=⟨x.toArray⟩:=fun t x h=>by
  apply ByteArray.ext
  show t.data=x.toArray
  rw [<- h]
 exact h2 _ _ h1
theorem txt_bl (l:List UInt8) (m:Nat):bl (txt ((runes l).take m))=l.take (byt ((runes l).take m)).length:=by
 have e2:byt ((runes l).take m)++byt ((runes l).drop m)=l:=by rw [<- byt_append,List.take_append_drop,byt_runes _ l Nat.le.refl]
 have e3:∀ (a b l:List UInt8),a++b=l->l.take a.length=a:=fun a b l h=>by rw [<- h];exact List.take_left
 rw [e3 _ _ _ e2]
 simp [bl,txt]
theorem src_word {P:Program}{t e:TypeId}(ht:P.underlying t=some (.slice e)) (w:World) (x:Wd) :
  Src P 4 t (.slice (some ⟨w.heap.size,0,none⟩) 1 1) 1 (celW x) (w.alloc (.cells #[.int .i64 (x.1:Int),.string (txt x.2.1),.int .i64 x.2.2.1,.int .i64 x.2.2.2] e)):=by
 have h:=World.ownsRow_lit (base:=w.heap.size) (e:=e) (size:=4) w #[.int .i64 (x.1:Int),.string (txt x.2.1),.int .i64 x.2.2.1,.int .i64 x.2.2.2] 1 Nat.le.refl (by simp [maxLen]) (by simp)
 exact Src.ofSlice _ ht _ 1 1 _ (by simp [celW]) (by simpa [celW] using h.cells (g:=w.heap.size) rfl) (by simp [celW,Value.oneCell'])
theorem Tryz.infoG:(Tryz.prog.info? 106).map (fun i=>(i.zero,i.size,i.bytes))=some (some (.agg #[.int .i64 0,.string ⟨#[]⟩,.int .i64 0,.int .i64 0]),4,40):=by kernel_rfl
theorem pWords_any (s:ByteArray) (w:World) (hs:s.size<=140737488351232) :
  Calls Tryz.prog 46 #[.string s] w fun e w'=>∃ u,e=.returned (.tuple #[u,.agg #[.int .i64 (wordsS (bl s)).2.1.1,.int .i64 (wordsS (bl s)).2.1.2],.int .i64 (wordsS (bl s)).2.2])/\OwnW w' w.heap.size 106 u (wordsS (bl s)).1/\Below w.heap.size w w':=by
 obtain ⟨i0,hi,hz0,hz1,hz2⟩:=info_parts Tryz.infoG
 by_cases hlong:12000 < s.size
 ·rw [words_long (show 12000 < (bl s).length from hlong)]
  have e1:(s.size:Int) > 12000:=by omega
  go_enter Tryz.func46,Tryz.ntmps46
  go_wp2
  go_region
  all_goals go_wp2
  all_goals exact bodyPost_ret (v:=.tuple #[.slice none 0 0,.agg #[.int .i64 1,.int .i64 1],.int .i64 4]) (by simp [results,Tryz.results46,go_sem]) rfl ⟨_,rfl,ownW_nil _ _ _,(((Below.refl _ _).alloc Nat.le.refl _).alloc (by simp) _).drew⟩
 have e1:¬ (s.size:Int) > 12000:=by omega
 have hsm:s.size<=12000:=by omega
 obtain ⟨⟨X,⟨pL,pC⟩,er⟩,hE⟩:∃ x,wordsS (bl s)=x:=⟨_,rfl⟩
 rw [hE]
 have HE:Hid (comb [] (wrds ((runes ((bl s).drop 0)).drop 0) 1 (1+((0:Nat):Int)) 0)=(X,(pL,pC),er)):=by
  show comb [] (wrds (runes (bl s)) 1 1 0)=(X,(pL,pC),er)
  rw [comb_nil,<- hE]
  unfold wordsS
  rw [if_neg (show ¬ 12000 < (bl s).length from hlong)]
 clear hE
 go_enter Tryz.func46,Tryz.ntmps46
 go_wp2
 go_loopw [6,7] (fun o x wr=>∃ (k j p:Nat) (ln co:Int) (acc:List Wd),x=.int .i64 (p:Int)/\It0 wr (w.heap.size+2) s k/\k<=s.size/\Hid (Inn (bl s) k j p)/\Hid (comb acc (wrds ((runes ((bl s).drop k)).drop j) ln (co+(j:Int)) acc.length)=(X,(pL,pC),er))/\1<=ln/\1<=co/\ln<=1+k/\co<=1+k/\acc.length<=3000/\
  OwnW wr (w.heap.size+3) 106 o acc/\At wr (w.heap.size+1) (.int .i64 ln) (.int .i64 co)/\(∃ a b,At wr w.heap.size a b)/\Below w.heap.size w wr) (fun _ _ wr=>s.size - wr.iterPos (w.heap.size+2))
 case atStart=>
  refine ⟨0,0,0,1,1,[],rfl,?_,by omega,Inn.zero _ _,HE,by omega,by omega,by omega,by omega,by simp,ownW_nil _ _ _,(At.new _ _ _ _ _ (by simp)).keep ((Below.refl _ _).alloc Nat.le.refl _),⟨_,_,((At.new w (.int .i64 0) (.int .i64 0) 23 _ rfl).keep ((Below.refl _ _).alloc Nat.le.refl _)).keep ((Below.refl _ _).alloc Nat.le.refl _)⟩,(((Below.refl _ _).alloc Nat.le.refl _).alloc (by simp) _).alloc (by simp;omega) _⟩
  have:=World.iter_heap ((w.alloc (.cells #[.int .i64 0,.int .i64 0] 23)).alloc (.cells #[.int .i64 1,.int .i64 1] 23)) s 0
  simpa [It0] using this
 case round=>
  obtain ⟨k,j,p,ln,co,acc,rfl,hit,hk,hin,hv,hl1,hc1,hl2,hc2,hacc,ho,hA,⟨a,b,hR⟩,hb⟩:=hrel
  by_cases hlt:k < s.size
  ·have hkl:k < (bl s).length:=by rw [bl_length];exact hlt
   have hnx:∀ ty,(Instr.next (.pointer (some ⟨w.heap.size+2,0,none⟩)) true ty).run Tryz.prog wr=_:=fun ty=>Lib.run_next_any_at wr (w.heap.size+2) s k ty hit hlt
   obtain ⟨d1,d2⟩:=dec_nx hlt
   have hne:=drop_ne hkl
   have hps:=nx_pos hne
   have hnl:=nx_le hne
   rw [List.length_drop,bl_length] at hnl
   have hrt:=runes_tail hkl
   rw [d1,d2] at hnx
   have bi:=Lib.below_iterAt (Below.refl (w.heap.size+2) wr) (k:=w.heap.size+2) Nat.le.refl s (k+(nx ((bl s).drop k)).2)
   have hit2:It0 (wr.iterAt (w.heap.size+2) s (k+(nx ((bl s).drop k)).2)) (w.heap.size+2) s (k+(nx ((bl s).drop k)).2):=Lib.iterAt_heap wr (w.heap.size+2) s k (k+(nx ((bl s).drop k)).2) hit
   have hA2:=hA.keepB bi (by omega)
   have hR2:=hR.keepB bi (by omega)
   have hb2:=hb.trans (bi.mono (by omega))
   have ho2:OwnW (wr.iterAt (w.heap.size+2) s (k+(nx ((bl s).drop k)).2)) (w.heap.size+3) 106 u6 acc:=ownsRow_iterAt ho (by omega) _ _
   obtain ⟨wq,hwq⟩:∃ wq,wr.iterAt (w.heap.size+2) s (k+(nx ((bl s).drop k)).2)=wq:=⟨_,rfl⟩
   rw [hwq] at hnx hit2 hA2 hR2 hb2 ho2
   have hq3:w.heap.size+3<=wq.heap.size:=by have:=hit2.lt;omega
   obtain ⟨y0,y1,y2,y3⟩:=id hA2
   clear d1 d2 hwq bi hA hR hb ho
   by_cases hj:0 < j
   ·
    obtain ⟨j',rfl⟩:∃ j',j=j'+1:=⟨j - 1,by omega⟩
    obtain ⟨hi1,hi2,hi3⟩:=Inn.step hkl hin.out
    have hx:rn (nx ((bl s).drop k)).1≠10:=fun e=>hi2 ((rn_small (by omega)).1 e)
    have h26:=pBehind_on ln co (rn (nx ((bl s).drop k)).1) wq (by omega) hx
    have hn:Hid (comb acc (wrds ((runes ((bl s).drop (k+(nx ((bl s).drop k)).2))).drop j') ln (co+1+(j':Int)) acc.length)=(X,(pL,pC),er)):=by
     have:=hv.out
     rw [hrt,show co+((j'+1:Nat):Int)=co+1+(j':Int) by omega] at this
     exact this
    have hI:Hid (Inn (bl s) (k+(nx ((bl s).drop k)).2) j' p):=hi1
    have hkp:((k:Int) == (p:Int))=false:=beq_eq_false_iff_ne.2 (by omega)
    obtain ⟨x,hxx⟩:∃ x,rn (nx ((bl s).drop k)).1=x:=⟨_,rfl⟩
    obtain ⟨q,hq⟩:∃ q,(nx ((bl s).drop k)).2=q:=⟨_,rfl⟩
    rw [hxx] at h26 hnx
    rw [hq] at hit2 hn hI hps hnl
    clear hrt hi1 hi2 hi3 hx hxx hq hne hkl hj
    go_wp2_with (first
     | (go_at_call 83;refine h26.mono ?_;rintro e w1 ⟨rfl,b1⟩;have hA1:=hA2.keep b1;have hR1:=hR2.keep b1;have hI1:=hit2.keep b1;have ho1:=ho2.below b1 Nat.le.refl;obtain ⟨z0,z1,z2,z3⟩:=id hA1;have b2:=hb2.trans (b1.mono hb2.size);clear h26 hA2 hR2 hb2 ho2 y0 y1 y2 y3))
    have hI2:=(hI1.set (X:=w.heap.size+1) (i:=0) (by omega) (.int .i64 ln)).set (X:=w.heap.size+1) (i:=1) (by omega) (.int .i64 (co+1))
    go_roundw
    case rel=>
     exact ⟨k+q,j',p,ln,co+1,acc,rfl,hI2,by omega,hI,hn,by omega,by omega,by omega,by omega,hacc,(ho1.set (by simp) _).set (by simp) _,(hA1.set0 _).set1 _,⟨a,b,(hR1.far (by omega) _).far (by omega) _⟩,(b2.setCell (by simp) _).setCell (by simp) _⟩
    case measure=>rw [iterPos_of hI2,iterPos_of hit];omega
   ·
    obtain rfl:j=0:=by omega
    have hpk:k=p:=hin.out.size
    subst hpk
    have hkp:((k:Int) == (k:Int))=true:=by simp
    have hvv:=hv.out
    rw [List.drop_zero,show co+((0:Nat):Int)=co by omega] at hvv
    have hP:=fun w1=>pPiece_any (s.extract k s.size) w1 (by rw [ByteArray.size_extract];omega) (by rw [ByteArray.size_extract];omega)
    rw [bl_from] at hP
    have hRt:=fun w1=>pRight_any (pc ((bl s).drop k)).1 (txt ((runes ((bl s).drop k)).take (pc ((bl s).drop k)).2)) w1 (by
     have h1:=txt_bl ((bl s).drop k) (pc ((bl s).drop k)).2
     have h2:=congrArg List.length h1
     rw [bl_length,List.length_take,List.length_drop,bl_length] at h2
     omega)
    rw [txt_bl] at hRt
    have htx:=txt_at s k (pc ((bl s).drop k)).2
    have hpn:=byt_split (runes ((bl s).drop k)) (pc ((bl s).drop k)).2
    rw [byt_runes _ _ Nat.le.refl,List.length_drop,bl_length] at hpn
    have hpl:=pc_le hne
    have hst:=fun h1 h2 h3=>Inn.start (m:=(pc ((bl s).drop k)).2) hkl h1 h2 h3
    have hrw:=right_word hne
    unfold pcB at hP hpl hrw
    obtain ⟨R,hRR⟩:∃ R,runes ((bl s).drop k)=R:=⟨_,rfl⟩
    have hcs:=runes_cons hne
    rw [hRR] at hcs
    have hw:=wrds_cons ((nx ((bl s).drop k)).1,((bl s).drop k).take (nx ((bl s).drop k)).2) (runes (((bl s).drop k).drop (nx ((bl s).drop k)).2)) ln co acc.length
    rw [<- hcs] at hw
    simp only at hw
    simp only [hRR] at hP hRt htx hpn hpl hst hrw hvv hrt
    have hpc10:(nx ((bl s).drop k)).1=10∨(nx ((bl s).drop k)).1=32∨(nx ((bl s).drop k)).1=9->pc ((bl s).drop k)=(0,1):=fun h=>by unfold pc;rw [if_pos (by omega)]
    have hpc35:(nx ((bl s).drop k)).1=35->pc ((bl s).drop k)=(0,rest R):=fun h=>by unfold pc;rw [if_neg (by omega),if_pos h,hRR]
    obtain ⟨K,hK⟩:∃ K,(pc ((bl s).drop k)).1=K:=⟨_,rfl⟩
    obtain ⟨m,hm⟩:∃ m,(pc ((bl s).drop k)).2=m:=⟨_,rfl⟩
    obtain ⟨g,hg⟩:∃ g,rightS K (((bl s).drop k).take (byt (R.take m)).length)=g:=⟨_,rfl⟩
    simp only [hK,hm] at hP hRt htx hpn hpl hst hrw
    rw [hg] at hpl hrw
    simp only [hg] at hRt
    obtain ⟨n,hnn⟩:∃ n,(byt (R.take m)).length=n:=⟨_,rfl⟩
    simp only [hnn] at hP htx hpn hst
    have hKg:K=0->g=true:=fun h=>by rw [<- hg,h];rfl
    clear hg
    have hkn:(k:Int)<=(k:Int)+(n:Int):=by omega
    have hkn2:(k:Int)+(n:Int)<=(s.size:Int):=by omega
    have hk0:(0:Int)<=(k:Int):=by omega
    have hks:(k:Int)<=(s.size:Int):=by omega
    have hknn:(0:Int)<=(k:Int)+(n:Int):=by omega
    have hK0:(nx ((bl s).drop k)).1=10∨(nx ((bl s).drop k)).1=32∨(nx ((bl s).drop k)).1=9->K=0/\m=1:=fun h=>by rw [<- hK,<- hm,hpc10 h];exact ⟨rfl,rfl⟩
    have hK5:(nx ((bl s).drop k)).1=35->K=0/\m=rest R:=fun h=>by rw [<- hK,<- hm,hpc35 h];exact ⟨rfl,rfl⟩
    clear hpc10 hpc35 hv
    cases g with
    | false=>
     have c10:¬ (nx ((bl s).drop k)).1=10:=fun h=>by have:=hKg (hK0 (.inl h)).1;cases this
     have c32:¬ ((nx ((bl s).drop k)).1=32∨(nx ((bl s).drop k)).1=9):=fun h=>by have:=hKg (hK0 (.inr h)).1;cases this
     have c35:¬ (nx ((bl s).drop k)).1=35:=fun h=>by have:=hKg (hK5 h).1;cases this
     have hf0:=(hrw c10 c32 c35).2.2 rfl
     rw [hw,if_neg c10,if_neg c32,if_neg c35,if_pos hf0,comb_err _ _ _ (by decide)] at hvv
     simp only [Prod.mk.injEq] at hvv
     obtain ⟨rfl,⟨rfl,rfl⟩,rfl⟩:=hvv
     obtain ⟨x,hxx⟩:∃ x,rn (nx ((bl s).drop k)).1=x:=⟨_,rfl⟩
     rw [hxx] at hnx hP
     clear c10 c32 c35 hf0 hw hrt hrw hpl hst hne hkl hcs hRR hK hm hK0 hK5 hKg hxx hit2 ho2 hnn hpn hin HE
     go_wp2_with (first
      | (go_at_call 81;refine (hP _).mono ?_;rintro e w1 ⟨rfl,b1⟩;have hA1:=hA2.keep b1;have hR1:=hR2.keep b1;have bb1:=hb2.trans (b1.mono hb2.size);clear hA2 hR2 hb2 hP b1 y0 y1 y2 y3)
      | (go_at_call 82;refine (hRt _).mono ?_;rintro e w2 ⟨rfl,b2⟩;have hA3:=hA1.keep b2;have hR3:=hR1.keep b2;have bb:=bb1.trans (b2.mono bb1.size);obtain ⟨y0,y1,y2,y3⟩:=id hA3;obtain ⟨z0,z1,z2,z3⟩:=id hR3;clear hA1 hR1 bb1 hRt b2))
     have hQ:=(hR3.set0 (.int .i64 ln)).set1 (.int .i64 co)
     obtain ⟨q0,q1,q2,q3⟩:=id hQ
     have bq:Below w.heap.size w ((w2.setCell ⟨w.heap.size,0,none⟩ (.int .i64 ln)).setCell ⟨w.heap.size,1,none⟩ (.int .i64 co)).drew:=((bb.setCell (by simp) _).setCell (by simp) _).drew
     clear hQ hA3 hR3
     go_region
     all_goals go_wp2
     all_goals exact bodyPost_ret (v:=.tuple #[.slice none 0 0,.agg #[.int .i64 ln,.int .i64 co],.int .i64 11]) (by simp [results,Tryz.results46,go_sem,q0,q1]) rfl ⟨_,rfl,ownW_nil _ _ _,bq⟩
    | true=>
     obtain ⟨hm1,hm2,hno⟩:=hpl rfl
     have hI:=hst hm1 hm2 hno
     by_cases c10:(nx ((bl s).drop k)).1=10
     ·
      have hx:rn (nx ((bl s).drop k)).1=10:=(rn_small (by omega)).2 c10
      obtain ⟨rfl,rfl⟩:=hK0 (.inl c10)
      have h26:=fun w1=>pBehind_feed ln co w1 (by omega)
      rw [hw,if_pos c10,List.drop_drop] at hvv
      have hn:Hid (comb acc (wrds ((runes ((bl s).drop (k+(nx ((bl s).drop k)).2))).drop 0) (ln+1) (1+((0:Nat):Int)) acc.length)=(X,(pL,pC),er)):=hvv
      have hIH:Hid (Inn (bl s) (k+(nx ((bl s).drop k)).2) 0 (k+n)):=hI
      rw [hx] at hnx hP
      obtain ⟨q,hq⟩:∃ q,(nx ((bl s).drop k)).2=q:=⟨_,rfl⟩
      rw [hq] at hit2 hn hIH hps hnl
      clear c10 hx hw hrt hrw hpl hst hne hkl hcs hRR hK hm hK0 hK5 hKg hvv hI hq hnn hpn hin HE hm1 hm2 hno
      go_wp2_with (first
       | (go_at_call 81;refine (hP _).mono ?_;rintro e w1 ⟨rfl,b1⟩;have hA1:=hA2.keep b1;have hR1:=hR2.keep b1;have hI1:=hit2.keep b1;have ho1:=ho2.below b1 Nat.le.refl;have bb1:=hb2.trans (b1.mono hb2.size);clear hA2 hR2 hb2 ho2 hit2 hP b1 y0 y1 y2 y3)
       | (go_at_call 82;refine (hRt _).mono ?_;rintro e w2 ⟨rfl,b2⟩;have hA3:=hA1.keep b2;have hR3:=hR1.keep b2;have hI3:=hI1.keep b2;have ho3:=ho1.below b2 Nat.le.refl;have bb3:=bb1.trans (b2.mono bb1.size);obtain ⟨y0,y1,y2,y3⟩:=id hA3;clear hA1 hR1 hI1 ho1 bb1 hRt b2)
       | (go_at_call 83;refine (h26 _).mono ?_;rintro e w4 ⟨rfl,b4⟩;have hA4:=hA3.keep b4;have hR4:=hR3.keep b4;have hI4:=hI3.keep b4;have ho4:=ho3.below b4 Nat.le.refl;have bb4:=bb3.trans (b4.mono bb3.size);obtain ⟨z0,z1,z2,z3⟩:=id hA4;clear h26 hA3 hR3 hI3 ho3 bb3 b4 y0 y1 y2 y3))
      have hI5:=(hI4.set (X:=w.heap.size+1) (i:=0) (by omega) (.int .i64 (ln+1))).set (X:=w.heap.size+1) (i:=1) (by omega) (.int .i64 1)
      go_roundw
      case rel=>
       exact ⟨k+q,0,k+n,ln+1,1,acc,by go_num,hI5,by omega,hIH,hn,by omega,by omega,by omega,by omega,hacc,(ho4.set (by simp) _).set (by simp) _,(hA4.set0 _).set1 _,⟨a,b,(hR4.far (by omega) _).far (by omega) _⟩,(bb4.setCell (by simp) _).setCell (by simp) _⟩
      case measure=>rw [iterPos_of hI5,iterPos_of hit];omega
     ·have hx:rn (nx ((bl s).drop k)).1≠10:=fun e=>c10 ((rn_small (by omega)).1 e)
      have h26:=fun w1=>pBehind_on ln co (rn (nx ((bl s).drop k)).1) w1 (by omega) hx
      by_cases hbt:((nx ((bl s).drop k)).1=32∨(nx ((bl s).drop k)).1=9)∨(nx ((bl s).drop k)).1=35
      ·
       have hKm:K=0:=hbt.elim (fun h=>(hK0 (.inr h)).1) (fun h=>(hK5 h).1)
       subst hKm
       have hwm:wrds R ln co acc.length=wrds (R.drop m) ln (co+(m:Int)) acc.length:=by
        rcases hbt with h|h
        ·rw [hw,if_neg c10,if_pos h,(hK0 (.inr h)).2,hrt 0,List.drop_zero,List.drop_drop];rfl
        ·rw [hw,if_neg c10,if_neg (by omega),if_pos h,<- (hK5 h).2]
       obtain ⟨j',rfl⟩:∃ j',m=j'+1:=⟨m - 1,by omega⟩
       rw [hwm,hrt,show co+((j'+1:Nat):Int)=co+1+(j':Int) by omega] at hvv
       have hn:Hid (comb acc (wrds ((runes ((bl s).drop (k+(nx ((bl s).drop k)).2))).drop j') ln (co+1+(j':Int)) acc.length)=(X,(pL,pC),er)):=hvv
       have hIH:Hid (Inn (bl s) (k+(nx ((bl s).drop k)).2) j' (k+n)):=hI
       obtain ⟨x,hxx⟩:∃ x,rn (nx ((bl s).drop k)).1=x:=⟨_,rfl⟩
       obtain ⟨q,hq⟩:∃ q,(nx ((bl s).drop k)).2=q:=⟨_,rfl⟩
       rw [hxx] at hnx hP
       simp only [hxx] at h26
       rw [hq] at hit2 hn hIH hps hnl
       clear c10 hx hw hrt hrw hpl hst hne hkl hcs hRR hK hm hK0 hK5 hKg hvv hI hq hnn hpn hin HE hm1 hm2 hno hbt hwm hxx
       go_wp2_with (first
        | (go_at_call 81;refine (hP _).mono ?_;rintro e w1 ⟨rfl,b1⟩;have hA1:=hA2.keep b1;have hR1:=hR2.keep b1;have hI1:=hit2.keep b1;have ho1:=ho2.below b1 Nat.le.refl;have bb1:=hb2.trans (b1.mono hb2.size);clear hA2 hR2 hb2 ho2 hit2 hP b1 y0 y1 y2 y3)
        | (go_at_call 82;refine (hRt _).mono ?_;rintro e w2 ⟨rfl,b2⟩;have hA3:=hA1.keep b2;have hR3:=hR1.keep b2;have hI3:=hI1.keep b2;have ho3:=ho1.below b2 Nat.le.refl;have bb3:=bb1.trans (b2.mono bb1.size);obtain ⟨y0,y1,y2,y3⟩:=id hA3;clear hA1 hR1 hI1 ho1 bb1 hRt b2)
        | (go_at_call 83;refine (h26 _).mono ?_;rintro e w4 ⟨rfl,b4⟩;have hA4:=hA3.keep b4;have hR4:=hR3.keep b4;have hI4:=hI3.keep b4;have ho4:=ho3.below b4 Nat.le.refl;have bb4:=bb3.trans (b4.mono bb3.size);obtain ⟨z0,z1,z2,z3⟩:=id hA4;clear h26 hA3 hR3 hI3 ho3 bb3 b4 y0 y1 y2 y3))
       have hI5:=(hI4.set (X:=w.heap.size+1) (i:=0) (by omega) (.int .i64 ln)).set (X:=w.heap.size+1) (i:=1) (by omega) (.int .i64 (co+1))
       go_roundw
       case rel=>
        exact ⟨k+q,j',k+n,ln,co+1,acc,by go_num,hI5,by omega,hIH,hn,by omega,by omega,by omega,by omega,hacc,(ho4.set (by simp) _).set (by simp) _,(hA4.set0 _).set1 _,⟨a,b,(hR4.far (by omega) _).far (by omega) _⟩,(bb4.setCell (by simp) _).setCell (by simp) _⟩
       case measure=>rw [iterPos_of hI5,iterPos_of hit];omega
      ·
       have c32:¬ ((nx ((bl s).drop k)).1=32∨(nx ((bl s).drop k)).1=9):=fun h=>hbt (.inl h)
       have c35:¬ (nx ((bl s).drop k)).1=35:=fun h=>hbt (.inr h)
       obtain ⟨hK1,hfp,_⟩:=hrw c10 c32 c35
       have hf:=hfp rfl
       have hf1:(fst1 R).1=K:=by rw [hf];exact hK
       have hf2:(fst1 R).2=m:=by rw [hf];exact hm
       have hKz:((K:Int) != 0)=true:=by simp;omega
       rw [hw,if_neg c10,if_neg c32,if_neg c35,hf1,hf2,if_neg (show ¬ K=0 by omega)] at hvv
       have hlen:∃ ao ac,u6=.slice ao acc.length ac:=by
        rcases ho2.2 with ⟨h,h2⟩|⟨g,cp,_,h,_⟩
        ·exact ⟨none,0,by rw [h,h2]⟩
        ·exact ⟨_,_,h⟩
       obtain ⟨ao,ac,rfl⟩:=hlen
       obtain ⟨x,hxx⟩:∃ x,rn (nx ((bl s).drop k)).1=x:=⟨_,rfl⟩
       rw [hxx] at hnx hP
       simp only [hxx] at h26
       by_cases a3:acc.length=3000
       ·rw [if_pos a3,comb_err _ _ _ (by decide)] at hvv
        simp only [Prod.mk.injEq] at hvv
        obtain ⟨rfl,⟨rfl,rfl⟩,rfl⟩:=hvv
        have h3:((acc.length:Int) == 3000)=true:=by simp;omega
        clear c10 c32 c35 hw hrt hrw hpl hst hne hkl hcs hRR hK hm hK0 hK5 hKg hxx hit2 ho2 hnn hpn hin HE hfp hf hf1 hf2 hI hx h26 hbt hm1 hm2 hno a3
        go_wp2_with (first
         | (go_at_call 81;refine (hP _).mono ?_;rintro e w1 ⟨rfl,b1⟩;have hA1:=hA2.keep b1;have hR1:=hR2.keep b1;have bb1:=hb2.trans (b1.mono hb2.size);clear hA2 hR2 hb2 hP b1 y0 y1 y2 y3)
         | (go_at_call 82;refine (hRt _).mono ?_;rintro e w2 ⟨rfl,b2⟩;have hA3:=hA1.keep b2;have hR3:=hR1.keep b2;have bb:=bb1.trans (b2.mono bb1.size);obtain ⟨y0,y1,y2,y3⟩:=id hA3;obtain ⟨z0,z1,z2,z3⟩:=id hR3;clear hA1 hR1 bb1 hRt b2))
        have hQ:=(hR3.set0 (.int .i64 ln)).set1 (.int .i64 co)
        obtain ⟨q0,q1,q2,q3⟩:=id hQ
        have bq:Below w.heap.size w ((w2.setCell ⟨w.heap.size,0,none⟩ (.int .i64 ln)).setCell ⟨w.heap.size,1,none⟩ (.int .i64 co)).drew:=((bb.setCell (by simp) _).setCell (by simp) _).drew
        clear hQ hA3 hR3
        go_region
        all_goals go_wp2
        all_goals exact bodyPost_ret (v:=.tuple #[.slice none 0 0,.agg #[.int .i64 ln,.int .i64 co],.int .i64 4]) (by simp [results,Tryz.results46,go_sem,q0,q1]) rfl ⟨_,rfl,ownW_nil _ _ _,bq⟩
       ·rw [if_neg a3,comb_pre] at hvv
        have h3:((acc.length:Int) == 3000)=false:=beq_eq_false_iff_ne.2 (by omega)
        have hac:acc.length < 3000:=by omega
        obtain ⟨seg,hseg⟩:∃ seg,R.take m=seg:=⟨_,rfl⟩
        rw [hseg] at hvv htx hRt
        obtain ⟨j',rfl⟩:∃ j',m=j'+1:=⟨m - 1,by omega⟩
        rw [hrt,show co+((j'+1:Nat):Int)=co+1+(j':Int) by omega] at hvv
        have hn:Hid (comb (acc++[(K,seg,ln,co)]) (wrds ((runes ((bl s).drop (k+(nx ((bl s).drop k)).2))).drop j') ln (co+1+(j':Int)) (acc++[((K,seg,ln,co):Wd)]).length)=(X,(pL,pC),er)):=by
         rw [List.length_append];exact hvv
        have hIH:Hid (Inn (bl s) (k+(nx ((bl s).drop k)).2) j' (k+n)):=hI
        have hts:(txt seg).size<=140737488351232:=by rw [<- htx,ByteArray.size_extract];omega
        have hC:=fun w1=>pClone_any (txt seg) w1 hts
        obtain ⟨q,hq⟩:∃ q,(nx ((bl s).drop k)).2=q:=⟨_,rfl⟩
        rw [hq] at hit2 hn hIH hps hnl
        clear c10 c32 c35 hw hrt hrw hpl hst hne hkl hcs hRR hK hm hK0 hK5 hKg hxx hnn hpn hin HE hfp hf hf1 hf2 hI hx hbt hm1 hm2 hno a3 hvv hq hseg hts
        go_wp2_with (first
         | (go_at_call 81;refine (hP _).mono ?_;rintro e w1 ⟨rfl,b1⟩;have hA1:=hA2.keep b1;have hR1:=hR2.keep b1;have hI1:=hit2.keep b1;have ho1:=ho2.below b1 Nat.le.refl;have bb1:=hb2.trans (b1.mono hb2.size);have hq1:w.heap.size+3<=w1.heap.size:=Nat.le_trans hq3 b1.size;clear hA2 hR2 hb2 ho2 hit2 hP b1 y0 y1 y2 y3)
         | (go_at_call 82;refine (hRt _).mono ?_;rintro e w2 ⟨rfl,b2⟩;have hA3:=hA1.keep b2;have hR3:=hR1.keep b2;have hI3:=hI1.keep b2;have ho3:=ho1.below b2 Nat.le.refl;have bb3:=bb1.trans (b2.mono bb1.size);have hq2:w.heap.size+3<=w2.heap.size:=Nat.le_trans hq1 b2.size;obtain ⟨y0,y1,y2,y3⟩:=id hA3;clear hA1 hR1 hI1 ho1 bb1 hRt b2))
        go_region_held_law (fun w'=>w'.cell? ⟨w.heap.size+1,0,none⟩=some (.int .i64 ln)/\w'.cell? ⟨w.heap.size+1,1,none⟩=some (.int .i64 co))
         (first|exact ⟨y0,y1⟩|exact ⟨c0,c1⟩|exact ⟨p0,p1⟩|go_keep)
         ((first
          | (go_at_call 38;refine (hC _).mono ?_;rintro e w3 ⟨rfl,b3⟩;have b3':Below w2.heap.size w2 w3:=((Below.refl _ w2).drew).trans b3;have hA5:=hA3.keep b3';have hR5:=hR3.keep b3';have hI5:=hI3.keep b3';have ho5:=ho3.below b3' Nat.le.refl;have bb5:=bb3.trans (b3'.mono bb3.size);have hq5:w.heap.size+3<=w3.heap.size:=Nat.le_trans hq2 b3'.size;obtain ⟨c0,c1,c2,c3⟩:=id hA5)
          | (refine step_append_both _ (by rfl) (.tmp 53) (.tmp 59) 83 83 (by rfl) (w.heap.size+3) 106 i0 (.agg #[.int .i64 0,.string ⟨#[]⟩,.int .i64 0,.int .i64 0]) 4 40 Tryz.underlying83 hi hz0 hz1 hz2 rfl _ acc.length _ (by rfl) (World.ownsRow.alloc ho5 _) _ 1 (celW (K,seg,ln,co)) (by rfl) (src_word Tryz.underlying83 w3 (K,seg,ln,co)) 1 (.inr (by omega)) Nat.le.refl (by unfold maxLen;omega) (by simp;omega) ?_;intro v4 w4 ho6 hg4 _;have bel4:Below (w.heap.size+3) w3 w4:=(((Below.refl _ _).alloc hq5 _)).grown hg4 (by simp;omega) (fun k hk=>(World.ownsRow.lt ho5 k hk).1);obtain ⟨p0,p1,p2,p3⟩:=hA5.keepB bel4 (by omega))))
        have hA6:At w4 (w.heap.size+1) (.int .i64 ln) (.int .i64 co):=⟨p0,p1,p2,p3⟩
        have hR6:=hR5.keepB bel4 (by omega)
        have hI6:=hI5.keepB bel4 (by omega)
        have bb6:=bb5.trans (bel4.mono (by omega))
        have ho7:=ownW_snoc ho6
        clear ho6 hg4 ho5 ho3 hA3 hA5 hR3 hR5 hI3 hI5 bel4 bb3 bb5 b3 b3' c0 c1 c2 c3 y0 y1 y2 y3 htx hC hq2 hq5 hq1 hq3
        go_wp2_with (first
         | (go_at_call 83;refine (h26 _).mono ?_;rintro e w8 ⟨rfl,b8⟩;have hA8:=hA6.keep b8;have hR8:=hR6.keep b8;have hI8:=hI6.keep b8;have ho8:=ho7.below b8 Nat.le.refl;have bb8:=bb6.trans (b8.mono bb6.size);obtain ⟨z0,z1,z2,z3⟩:=id hA8;clear h26 hA6 hR6 hI6 ho7 bb6 b8 p0 p1 p2 p3))
        have hI9:=(hI8.set (X:=w.heap.size+1) (i:=0) (by omega) (.int .i64 ln)).set (X:=w.heap.size+1) (i:=1) (by omega) (.int .i64 (co+1))
        go_roundw
        case rel=>
         exact ⟨k+q,j',k+n,ln,co+1,acc++[(K,seg,ln,co)],by go_num,hI9,by omega,hIH,hn,by omega,by omega,by omega,by omega,by simp;omega,(ho8.set (by simp) _).set (by simp) _,(hA8.set0 _).set1 _,⟨a,b,(hR8.far (by omega) _).far (by omega) _⟩,(bb8.setCell (by simp) _).setCell (by simp) _⟩
        case measure=>rw [iterPos_of hI9,iterPos_of hit];omega
  ·have hnx:∀ ty,(Instr.next (.pointer (some ⟨w.heap.size+2,0,none⟩)) true ty).run Tryz.prog wr=_:=fun ty=>Lib.run_next_end_at wr (w.heap.size+2) s k ty hit hlt
   have hnil:(bl s).drop k=[]:=List.drop_eq_nil_of_le (by rw [bl_length];omega)
   have hvv:=hv.out
   rw [hnil,runes_nil,List.drop_nil,comb_end] at hvv
   simp only [Prod.mk.injEq] at hvv
   obtain ⟨rfl,⟨rfl,rfl⟩,rfl⟩:=hvv
   obtain ⟨z0,z1,z2,z3⟩:=id hR
   have hA2:=(hR.set0 (.int .i64 0)).set1 (.int .i64 0)
   obtain ⟨q0,q1,q2,q3⟩:=id hA2
   have b2:Below w.heap.size w ((wr.setCell ⟨w.heap.size,0,none⟩ (.int .i64 0)).setCell ⟨w.heap.size,1,none⟩ (.int .i64 0)):=(hb.setCell (by simp) _).setCell (by simp) _
   have o2:=(ho.set (a:=⟨w.heap.size,0,none⟩) (by simp) (.int .i64 0)).set (a:=⟨w.heap.size,1,none⟩) (by simp) (.int .i64 0)
   clear hnil hA hR hA2 hv HE ho hin
   go_wp2
   exact bodyPost_ret (v:=.tuple #[u6,.agg #[.int .i64 0,.int .i64 0],.int .i64 0]) (by simp [results,Tryz.results46,go_sem,q0,q1]) rfl ⟨_,rfl,o2.base (by omega),b2⟩
def SmL (cs:List (List UInt8)):Prop:=∀ c∈cs,c.length<=100000
theorem SmL.app {a b:List (List UInt8)}(h:SmL a) (k:SmL b):SmL (a++b):=fun c hc=>(List.mem_append.1 hc).elim (h c) (k c)
theorem SmL.flat {α:Type}{f:α->List (List UInt8)}{l:List α}(h:∀ x∈l,SmL (f x)):SmL (l.map f).flatten:=fun c hc=>by
 obtain ⟨a,ha,hca⟩:=List.mem_flatten.1 hc
 obtain ⟨x,hx,rfl⟩:=List.mem_map.1 ha
 exact h x hx c hca
theorem SmL.ln {n:Nat}{s:List UInt8}(hn:n<=1000) (hs:s.length<=100000):SmL (lnW n s):=fun c hc=>by
 unfold lnW at hc
 simp only [List.mem_cons,List.not_mem_nil,or_false] at hc
 rcases hc with rfl|rfl|rfl
 ·rw [List.length_replicate];omega
 ·exact hs
 ·show 1<=_;omega
theorem plain_96 {s:List UInt8}(h:plainB s=true):s.length<=96:=name_len (plain_name h)
theorem smL_on {n:Nat}{o:OnC}(hn:n<=1000) (hf:onF o=true) (hc:OnCl o):SmL (onW n o):=by
 obtain ⟨f1,f2,f3,f4⟩:=onF_parts hf
 have h1:=plain_96 f1
 have h3:=plain_96 f3
 intro c hcm
 unfold onW grdW at hcm
 simp only [List.mem_append,List.mem_cons,List.not_mem_nil,or_false,List.mem_map] at hcm
 rcases hcm with (rfl|rfl)|hg|rfl|⟨s,hs,rfl⟩|rfl
 ·rw [List.length_replicate];omega
 ·simp only [List.length_append,List.length_cons,List.length_nil];omega
 ·by_cases hgb:o.2.1.1=true
  ·rw [if_pos hgb] at hg
   simp only [List.mem_cons,List.not_mem_nil,or_false] at hg
   subst hg
   have:=(ex_text (hc.1 hgb) (f2 hgb)).2.1
   simp only [List.length_append,List.length_cons,List.length_nil];omega
  ·rw [if_neg hgb] at hg
   cases hg
 ·simp only [List.length_append,List.length_cons,List.length_nil];omega
 ·obtain ⟨g1,_,g3,_⟩:=set_text (List.all_eq_true.1 f4 s hs) (hc.2 s hs)
  unfold setW
  simp only [List.length_append,List.length_cons,List.length_nil];omega
 ·show 1<=_;omega
theorem smL_knd {n:Nat}{h:HdC}(hn:n<=1000) (hf:kndF h=true):SmL (kndW n h):=by
 unfold kndW
 by_cases h1:h.2.1.1=true
 ·rw [if_pos h1];exact SmL.ln hn (by show 3<=_;omega)
 ·rw [if_neg h1]
  by_cases h2:h.2.1.2=true
  ·rw [if_pos h2];exact SmL.ln hn (by show 3<=_;omega)
  ·rw [if_neg h2]
   by_cases h3:h.2.2.1.1≠[]
   ·rw [if_pos h3]
    obtain ⟨_,_,k3,k4,k5,k6⟩:=kndF_step hf (step_do h3)
    have q3:=plain_96 k3
    have q4:=plain_96 k4
    have q5:=dc_len (nb_of k5)
    have q6:=dc_len (nb_of k6)
    refine SmL.ln hn ?_
    unfold doW
    simp only [List.length_append,List.length_cons,List.length_nil];omega
   ·rw [if_neg h3];exact fun c hc=>by cases hc
theorem smL_st:∀ (d n:Nat) (t:St d),stF d n t=true->StCl d t->SmL (stW d n t)
 | 0,_,t,_,_=>Empty.elim t
 | d+1,n,t,h,hc=>by
  obtain ⟨h1,h2,h3,h4,h5⟩:=stF_parts h
  have q2:=plain_96 h2
  refine SmL.app (SmL.ln (by omega) ?_) (SmL.app (smL_knd (by omega) h3) (SmL.app (SmL.flat fun o ho=>smL_on (by omega) (List.all_eq_true.1 h4 o ho) (hc.1 o ho)) (SmL.app (SmL.flat fun x hx=>smL_st d (n+1) x (List.all_eq_true.1 h5 x hx) (hc.2 x hx)) (SmL.ln (by omega) (by show 1<=_;omega)))))
  unfold stnW
  simp only [List.length_append,List.length_cons,List.length_nil];omega
theorem smL_ch {d:Nat}{c:ChX d}(h:chF d c=true) (hc:∀ t∈c.2.2.2,StCl d t):SmL (chW d c):=by
 obtain ⟨h1,h2,h3,h4⟩:=chF_parts h
 have q1:=plain_96 h1
 have q2:=dc_len (nb_of h2)
 refine SmL.app (SmL.ln (by omega) ?_) (SmL.app (SmL.flat fun v hv=>SmL.ln (by omega) ?_) (SmL.app (SmL.flat fun x hx=>smL_st d 1 x (List.all_eq_true.1 h4 x hx) (hc x hx)) (SmL.ln (by omega) (by show 1<=_;omega))))
 ·unfold chnW
  simp only [List.length_append,List.length_cons,List.length_nil];omega
 ·have hv:=List.all_eq_true.1 h3 v hv
  unfold varF at hv
  simp only [Bool.and_eq_true,decide_eq_true_eq] at hv
  have q3:=plain_96 hv.1
  have q4:=znW_len hv.2
  simp only [List.length_append,List.length_cons,List.length_nil];omega
theorem fold_le:∀ (cs:List (List UInt8)) (l:List UInt8),SmL cs->l.length<=200000->(cs.foldl wpL l).length<=200000
 | [],l,_,hl=>hl
 | c :: cs,l,h,hl=>by
  rw [List.foldl_cons]
  refine fold_le cs _ (fun x hx=>h x (by simp [hx])) ?_
  unfold wpL
  have:=h c (by simp)
  split
  ·rw [List.length_append];omega
  ·exact hl
def prG (d:Nat) (c:ChX d):List UInt8 × Int:=if chF d c=true then (if (txQ (chQ d c)).length<=12000/\(tkQ (chQ d c)).length<=3000 then (txQ (chQ d c),0) else ([],4)) else ([],1)
theorem wr_words {d:Nat}{c:ChX d}(h:chF d c=true) (hc:∀ t∈c.2.2.2,StCl d t):∃ L,(chW d c).foldl wpL []=L/\L≠[]/\L.length<=200000/\prG d c=if (wordsS L).2.2=0 then (L,0) else ([],(wordsS L).2.2):=by
 refine ⟨_,rfl,?_,fold_le _ _ (smL_ch h hc) (by simp),?_⟩
 ·intro e
  by_cases hl:(txQ (chQ d c)).length<=12000
  ·rw [wr_short h hl] at e
   unfold chQ at e
   rw [txQ_app] at e
   have:=(List.append_eq_nil_iff.1 e).1
   simp [txQ,pieQ,kwQ,wChart] at this
  ·have:=wr_long h hl
   rw [e] at this
   simp at this
 ·unfold prG
  rw [if_pos h]
  by_cases hl:(txQ (chQ d c)).length<=12000
  ·rw [wr_short h hl]
   have hw:=words_Q (fitQ_ch h hc)
   by_cases hk:(tkQ (chQ d c)).length<=3000
   ·rw [if_pos ⟨hl,hk⟩] at hw ⊢
    have e0:(wordsS (txQ (chQ d c))).2.2=0:=congrArg Prod.snd hw
    rw [if_pos e0]
   ·rw [if_neg (fun q=>hk q.2)] at hw ⊢
    have e0:(wordsS (txQ (chQ d c))).2.2=4:=congrArg Prod.snd hw
    rw [if_neg (by rw [e0];decide),e0]
  ·have hL:=wr_long h hl
   rw [if_neg (fun q=>hl q.1)]
   generalize (chW d c).foldl wpL []=L at hL
   have e0:(wordsS L).2.2=4:=by unfold wordsS;rw [if_pos hL]
   rw [if_neg (by rw [e0];decide),e0]
theorem print_no {w:World}(s0:ByteArray) (vn pl pc:Int) (p1:Option Addr) (nv p3:Nat) (p4:Option Addr) (ni p6:Nat) (hF:∀ w1,Below w.heap.size w w1->Calls Tryz.prog 21 #[.agg #[.string s0,.int .i64 vn,.int .i64 pl,.int .i64 pc,.slice p1 nv p3,.slice p4 ni p6]] w1 fun e w'=>e=.returned (.bool false)/\Below w1.heap.size w1 w') :
  Calls Tryz.prog 19 #[.agg #[.string s0,.int .i64 vn,.int .i64 pl,.int .i64 pc,.slice p1 nv p3,.slice p4 ni p6]] w fun e w'=>e=.returned (.tuple #[.string ⟨#[]⟩,.int .i64 1])/\Below w.heap.size w w':=by
 have hal:Below w.heap.size w (w.alloc (.cells #[.string s0,.int .i64 vn,.int .i64 pl,.int .i64 pc,.slice p1 nv p3,.slice p4 ni p6] 33)):=(Below.refl w.heap.size w).alloc Nat.le.refl _
 have hX:Bn (w.alloc (.cells #[.string s0,.int .i64 vn,.int .i64 pl,.int .i64 pc,.slice p1 nv p3,.slice p4 ni p6] 33)) w.heap.size [.string s0,.int .i64 vn,.int .i64 pl,.int .i64 pc,.slice p1 nv p3,.slice p4 ni p6]:=Bn.new w [.string s0,.int .i64 vn,.int .i64 pl,.int .i64 pc,.slice p1 nv p3,.slice p4 ni p6] 33 _ rfl
 have hF1:=hF _ hal
 go_enter Tryz.func19,Tryz.ntmps19
 go_upto_region 1 with fail
 generalize (w.alloc (.cells #[.string s0,.int .i64 vn,.int .i64 pl,.int .i64 pc,.slice p1 nv p3,.slice p4 ni p6] 33))=wx at *
 have c0:=(hX 0 _ rfl).1
 have c1:=(hX 1 _ rfl).1
 have c2:=(hX 2 _ rfl).1
 have c3:=(hX 3 _ rfl).1
 have c4:=(hX 4 _ rfl).1
 have c5:=(hX 5 _ rfl).1
 go_wp2_with (first
  | (go_at_call 21;refine hF1.mono ?_;rintro e w1 ⟨rfl,b1⟩)
  | fail)
 go_ret2
 exact ⟨rfl,hal.trans (b1.mono hal.size)⟩
theorem print_yes {w:World}(s0:ByteArray) (vn pl pc:Int) (p1:Option Addr) (nv p3:Nat) (p4:Option Addr) (ni p6:Nat) (L:List UInt8) (h0:L≠[]) (hL:L.length<=200000) (hF:∀ w1,Below w.heap.size w w1->Calls Tryz.prog 21 #[.agg #[.string s0,.int .i64 vn,.int .i64 pl,.int .i64 pc,.slice p1 nv p3,.slice p4 ni p6]] w1 fun e w'=>e=.returned (.bool true)/\Below w1.heap.size w1 w')
  (hC:∀ B b w1,Below w.heap.size w w1->w.heap.size<=B->B<=w1.heap.size->Wr B b [] w1->Calls Tryz.prog 44 #[.pointer (some ⟨b,0,none⟩),.agg #[.string s0,.int .i64 vn,.int .i64 pl,.int .i64 pc,.slice p1 nv p3,.slice p4 ni p6]] w1 fun e w'=>e=.returned (.tuple #[])/\Wx B b L w1 w') :
  Calls Tryz.prog 19 #[.agg #[.string s0,.int .i64 vn,.int .i64 pl,.int .i64 pc,.slice p1 nv p3,.slice p4 ni p6]] w fun e w'=>e=.returned (.tuple #[.string ⟨(if (wordsS L).2.2=0 then L else []).toArray⟩,.int .i64 (wordsS L).2.2])/\Below w.heap.size w w':=by
 have hal:Below w.heap.size w (w.alloc (.cells #[.string s0,.int .i64 vn,.int .i64 pl,.int .i64 pc,.slice p1 nv p3,.slice p4 ni p6] 33)):=(Below.refl w.heap.size w).alloc Nat.le.refl _
 have hX:Bn (w.alloc (.cells #[.string s0,.int .i64 vn,.int .i64 pl,.int .i64 pc,.slice p1 nv p3,.slice p4 ni p6] 33)) w.heap.size [.string s0,.int .i64 vn,.int .i64 pl,.int .i64 pc,.slice p1 nv p3,.slice p4 ni p6]:=Bn.new w [.string s0,.int .i64 vn,.int .i64 pl,.int .i64 pc,.slice p1 nv p3,.slice p4 ni p6] 33 _ rfl
 have hF1:=hF _ hal
 obtain ⟨LT,hLT,eLT,zLT⟩:=letter_of L
 have hWd:=fun w1=>pWords_any LT w1 (by omega)
 rw [eLT] at hWd
 obtain ⟨we,hwe⟩:∃ x,(wordsS L).2.2=x:=⟨_,rfl⟩
 obtain ⟨wl,hwl⟩:∃ x,(wordsS L).2.1.1=x:=⟨_,rfl⟩
 obtain ⟨wc,hwc⟩:∃ x,(wordsS L).2.1.2=x:=⟨_,rfl⟩
 have hWf:∀ w1,Calls Tryz.prog 46 #[.string LT] w1 fun e w'=>∃ u1 u2 u3,e=.returned (.tuple #[.slice u1 u2 u3,.agg #[.int .i64 wl,.int .i64 wc],.int .i64 we])/\Below w1.heap.size w1 w':=fun w1=>(hWd w1).mono (fun e w' hh=>by
  obtain ⟨u,h1,h2,h3⟩:=hh
  rw [hwe,hwl,hwc] at h1
  rcases h2.2 with ⟨hu,_⟩|⟨g,cap,cur,hu,_⟩
  ·rw [hu] at h1
   exact ⟨_,_,_,h1,h3⟩
  ·rw [hu] at h1
   exact ⟨_,_,_,h1,h3⟩)
 rw [hwe]
 obtain ⟨TX,hTX⟩:∃ TX:ByteArray,(⟨(if we=0 then L else []).toArray⟩:ByteArray)=TX:=⟨_,rfl⟩
 rw [hTX]
 have HTX:=mkHid hTX
 clear hWd hwe hwl hwc hTX
 go_enter Tryz.func19,Tryz.ntmps19
 go_upto_region 1 with fail
 generalize (w.alloc (.cells #[.string s0,.int .i64 vn,.int .i64 pl,.int .i64 pc,.slice p1 nv p3,.slice p4 ni p6] 33))=wx at *
 have c0:=(hX 0 _ rfl).1
 have c1:=(hX 1 _ rfl).1
 have c2:=(hX 2 _ rfl).1
 have c3:=(hX 3 _ rfl).1
 have c4:=(hX 4 _ rfl).1
 have c5:=(hX 5 _ rfl).1
 have hlt:=hX.lt
 go_upto_region 3 with (first
  | (go_at_call 21;refine hF1.mono ?_;rintro e w1 ⟨rfl,b1⟩)
  | fail)
 have hb1:=hal.trans (b1.mono hal.size)
 have hX1:=hX.on b1
 have hal2:Below w1.heap.size w1 (w1.alloc (.cells #[.pointer none,.slice none 0 0] 80)):=(Below.refl _ _).alloc Nat.le.refl _
 have hWr:Wr w1.heap.size w1.heap.size [] (w1.alloc (.cells #[.pointer none,.slice none 0 0] 80)):=.inl ⟨Nat.le_refl _,_,blk_new _ _,World.ownsRowF_of (World.ownsRow_nil _ _ _ _),by simp [Value.ownBlock]⟩
 have hCh:=hC w1.heap.size w1.heap.size _ (hb1.trans (hal2.mono hb1.size)) hb1.size hal2.size hWr
 have hX2:=hX1.on hal2
 go_upto_region 4 with fail
 generalize (w1.alloc (.cells #[.pointer none,.slice none 0 0] 80))=wy at *
 clear c0 c1 c2 c3 c4 c5 hF1 hF hC
 have c0:=(hX2 0 _ rfl).1
 have c1:=(hX2 1 _ rfl).1
 have c2:=(hX2 2 _ rfl).1
 have c3:=(hX2 3 _ rfl).1
 have c4:=(hX2 4 _ rfl).1
 have c5:=(hX2 5 _ rfl).1
 obtain ⟨b,hbb⟩:∃ b,w1.heap.size=b:=⟨_,rfl⟩
 rw [hbb] at hCh hWr ⊢
 have HB:Hid (w1.heap.size=b):=hbb
 have hbw:w.heap.size<=b:=by have:=hb1.size;omega
 have hal3:Below w.heap.size w wy:=hb1.trans (hal2.mono hb1.size)
 have hSt:∀ w2,Wr b b L w2->Calls Tryz.prog 45 #[.pointer (some ⟨b,0,none⟩)] w2 fun e w'=>e=.returned (.string LT)/\Below b w2 w':=fun w2 hw2=>by
  rw [<- hLT];exact wString_any hw2 h0
 clear hbb hX hX1 hX2 hWr hal hal2 b1 hb1
 by_cases hz:we=0
 ·subst hz
  have hTX:=HTX.out
  rw [if_pos rfl,hLT] at hTX
  subst hTX
  clear hLT HTX
  go_wp2_with (first
   | (go_at_call 44;refine hCh.mono ?_;rintro e w2 ⟨rfl,k⟩)
   | (go_at_call 45;refine (hSt _ k.1).mono ?_;rintro e w3 ⟨rfl,b3⟩)
   | (go_at_call 46;refine (hWf _).mono ?_;rintro e w4 ⟨u1,u2,u3,rfl,b4⟩)
   | fail)
  go_ret2
  have hb4:Below w.heap.size w w4:=by
   have q1:=hal3.trans (k.2.1.mono hbw)
   have q2:=q1.trans (b3.mono hbw)
   exact q2.trans (b4.mono q2.size)
  refine ⟨rfl,?_⟩
  first
   | exact hb4.alloc hb4.size _
   | exact (hb4.alloc hb4.size _).setCell (p:=⟨w4.heap.size,0,none⟩) hb4.size _
 ·have hz2:(we == 0)=false:=by simpa using hz
  have i1:¬ we=0:=hz
  have hTX:=HTX.out
  rw [if_neg hz] at hTX
  subst hTX
  clear hLT HTX
  go_wp2_with (first
   | (go_at_call 44;refine hCh.mono ?_;rintro e w2 ⟨rfl,k⟩)
   | (go_at_call 45;refine (hSt _ k.1).mono ?_;rintro e w3 ⟨rfl,b3⟩)
   | (go_at_call 46;refine (hWf _).mono ?_;rintro e w4 ⟨u1,u2,u3,rfl,b4⟩)
   | fail)
  go_ret2
  have hb4:Below w.heap.size w w4:=by
   have q1:=hal3.trans (k.2.1.mono hbw)
   have q2:=q1.trans (b3.mono hbw)
   exact q2.trans (b4.mono q2.size)
  refine ⟨rfl,?_⟩
  first
   | exact hb4.alloc hb4.size _
   | exact (hb4.alloc hb4.size _).setCell (p:=⟨w4.heap.size,0,none⟩) hb4.size _
theorem printC_any {ok:Nat->Prop}{w:World}{d:Nat}{c:ChG d}{v:Value}(h:RdC ok w d c v) (hk:ChK d c) (hcl:∀ t∈c.2.2.2,StCl d t) (hp:Pow w) :
  Calls Tryz.prog 19 #[v] w fun e w'=>e=.returned (.tuple #[.string ⟨(prG d c).1.toArray⟩,.int .i64 (prG d c).2])/\Below w.heap.size w w':=by
 have hF:∀ w1,Below w.heap.size w w1->Calls Tryz.prog 21 #[v] w1 fun e w'=>e=.returned (.bool (chF d c))/\Below w1.heap.size w1 w':=fun w1 b1=>formedC_any (h.keep (ok':=ok) (fun b hb hl=>⟨hb,b1.block b hl⟩)) hk (hp.below b1)
 obtain ⟨sv,ss,rfl,hv,hs⟩:=h
 obtain ⟨p1,p3,rfl,_⟩:=hv.form
 obtain ⟨p4,p6,rfl,_⟩:=hs.form
 obtain ⟨s0,e0,eb,_⟩:=letter_of c.1.1
 have es:sV c.1.1=.string s0:=by unfold sV;rw [e0]
 rw [es] at hF ⊢
 cases hcf:chF d c with
 | false=>
  rw [hcf] at hF
  have e:prG d c=([],1):=by unfold prG;rw [if_neg (by rw [hcf];decide)]
  rw [e]
  exact print_no s0 _ _ _ p1 _ p3 p4 _ p6 hF
 | true=>
  rw [hcf] at hF
  obtain ⟨L,hL,h0,hl,hpr⟩:=wr_words hcf hcl
  have e:prG d c=((if (wordsS L).2.2=0 then L else []),(wordsS L).2.2):=by
   rw [hpr]
   split
   ·next hh=>rw [hh]
   ·rfl
  rw [e]
  refine print_yes s0 _ _ _ p1 _ p3 p4 _ p6 L h0 hl hF (fun B b w1 b1 hB1 hB2 hw1=>?_)
  have:=wchart_walk c s0 c.2.1 c.1.2.1 c.1.2.2 p1 _ p3 p4 _ p6 hw1 hB2 eb rfl (hv.stay kp_var (ok':=fun x=>x < B) (fun b hb hl=>⟨Nat.lt_of_lt_of_le hl hB1,b1.block b hl⟩)) rfl (hs.stay (kp_st d) (ok':=fun x=>x < B) (fun b hb hl=>⟨Nat.lt_of_lt_of_le hl hB1,b1.block b hl⟩)) hcf hcl (fun w2 b2=>hp.below (b1.trans (b2.mono hB1)))
  rw [hL] at this
  exact this
def AtT (r:RsC) (ts:List Tk):Prop:=r.1.map tkW=ts/\r.2.2=0
theorem AtT.cons {r:RsC}{x:Tk}{ts:List Tk}(h:AtT r (x :: ts)):∃ w l,r.1=w :: l/\tkW w=x/\l.map tkW=ts:=by
 obtain ⟨h1,h2⟩:=h
 cases hr:r.1 with
 | nil=>rw [hr] at h1;cases h1
 | cons w l=>
  rw [hr,List.map_cons] at h1
  injection h1 with a b
  exact ⟨w,l,rfl,a,b⟩
theorem is_at {r:RsC}{k:Nat}{s:List UInt8}{ts:List Tk}(h:AtT r ((k,s) :: ts)) (s':List UInt8):isC s' r=decide (s=s'):=by
 obtain ⟨w,l,hr,hw,_⟩:=h.cons
 unfold isC
 rw [decide_eq_true h.2,hr]
 show (true && decide ((tkW w).2=s'))=_
 rw [hw];rfl
theorem take_at {r:RsC}{k:Nat}{s:List UInt8}{ts:List Tk}(h:AtT r ((k,s) :: ts)) (fin:Pl):AtT (takeR fin s r) ts:=by
 obtain ⟨w,l,hr,hw,hl⟩:=h.cons
 unfold takeR
 rw [if_pos (by rw [is_at h,decide_eq_true rfl]),hr]
 exact ⟨hl,h.2⟩
theorem name_at {r:RsC}{k:Nat}{s:List UInt8}{ts:List Tk}(h:AtT r ((k,s) :: ts)) (hp:plainB s=true) (fin:Pl):(nameR fin r).1.1=s/\AtT (nameR fin r).2 ts:=by
 obtain ⟨w,l,hr,hw,hl⟩:=h.cons
 obtain ⟨r1,r2⟩:=r
 obtain rfl:r1=w :: l:=hr
 have h0:r2.2=0:=h.2
 have e:nameR fin (w :: l,r2)=if r2.2=0/\plainB (tkW w).2=true then (((tkW w).2,wPl w),(l,r2)) else (([],(0,0)),failC 12 (hereR fin (w :: l,r2)) (w :: l,r2)):=rfl
 rw [e,hw,if_pos ⟨h0,hp⟩]
 exact ⟨rfl,hl,h0⟩
theorem num_at {r:RsC}{s:List UInt8}{ts:List Tk}(h:AtT r ((2,s) :: ts)) (fin:Pl):(numR fin r).1=valB 0 s/\AtT (numR fin r).2 ts:=by
 obtain ⟨w,l,hr,hw,hl⟩:=h.cons
 obtain ⟨r1,r2⟩:=r
 obtain rfl:r1=w :: l:=hr
 have h0:r2.2=0:=h.2
 have e:numR fin (w :: l,r2)=if r2.2=0/\w.1=2 then (valB 0 (tkW w).2,(l,r2)) else (0,failC 12 (hereR fin (w :: l,r2)) (w :: l,r2)):=rfl
 have hk:w.1=2:=congrArg Prod.fst hw
 rw [e,hw,if_pos ⟨h0,hk⟩]
 exact ⟨rfl,hl,h0⟩
theorem expr_at {r:RsC}{x:Sx}{ts:List Tk}(h:AtT r (tkQ (exQ x)++ts)) (hc:ClX x) (hf:exF x=true) (he:Ends 1 ts) (fin:Pl):Alk (exprR fin r).1 x.2/\AtT (exprR fin r).2 ts:=by
 obtain ⟨ho,hr⟩:=exF_parts hc hf
 have hfm:fmC x.1 x.2=true:=by
  unfold exF at hf
  exact ((Bool.and_eq_true _ _).mp hf).1
 have e1:tkQ (exQ x)=(tks dcN x.1 x.2).2:=by
  unfold exQ
  rw [tkQ_qE,(pcs_tks dcN x.1 x.2).2]
 rw [e1] at h
 obtain ⟨h1,h2⟩:=h
 obtain ⟨L,hL⟩:∃ L,r.1.map tkW=L:=⟨_,rfl⟩
 have hLl:L=(tks dcN x.1 x.2).2++ts:=by rw [<- hL,h1]
 obtain ⟨y,hy,ha⟩:=(both_any (valB 0) rsvB L dcN x.1).1 x.2 hc ho 1 (7*L.length+6+(7*x.1+5)) 0 ts Nat.le.refl (tks_st ho).1 (by omega) (by rw [List.drop_zero,hLl]) he
 rw [psr_same (by omega) (by omega) (by omega),Nat.zero_add] at hy
 have ht:takeC L=(y,(tks dcN x.1 x.2).2.length,0):=by
  unfold takeC rdC
  rw [hy,if_neg (by show ¬ (0:Int)<=-1;decide),if_pos (by show fmX y=true;rw [ha.fm,hfm])]
 have e:exprR fin r=(y,(r.1.drop (tks dcN x.1 x.2).2.length,r.2)):=by
  unfold exprR
  rw [if_neg (by simpa using h2),hL,ht]
  rfl
 rw [e]
 refine ⟨ha,?_,h2⟩
 show (r.1.drop (tks dcN x.1 x.2).2.length).map tkW=ts
 rw [List.map_drop,hL,hLl,List.drop_left]
def L2 {α β:Type}(R:α->β->Prop):List α->List β->Prop
 | [],[]=>True
 | a :: l,b :: m=>R a b/\L2 R l m
 | _,_=>False
def AkT (s s':List UInt8 × Sx):Prop:=s.1=s'.1/\Alk s'.2 s.2.2
def AkO (o o':OnC):Prop:=o.1=o'.1/\o.2.1.1=o'.2.1.1/\(o.2.1.1=true->Alk o'.2.1.2 o.2.1.2.2)/\o.2.2.1=o'.2.2.1/\L2 AkT o.2.2.2.1 o'.2.2.2.1
def AkS:(d d':Nat)->St d->St d'->Prop
 | 0,_,t,_=>Empty.elim t
 | _+1,0,_,t=>Empty.elim t
 | d+1,d'+1,t,t'=>t.1.1.1=t'.1.1.1/\t.1.2.1=t'.1.2.1/\t.1.2.2.1=t'.1.2.2.1/\t.1.2.2.2.1=t'.1.2.2.2.1/\L2 AkO t.1.2.2.2.2 t'.1.2.2.2.2/\L2 (AkS d d') t.2 t'.2
def AkV (v v':List UInt8 × Int × Pl):Prop:=v.1=v'.1/\v.2.1=v'.2.1
def AkC (d d':Nat) (c:ChX d) (c':ChX d'):Prop:=c.1.1=c'.1.1/\c.2.1=c'.2.1/\L2 AkV c.2.2.1 c'.2.2.1/\L2 (AkS d d') c.2.2.2 c'.2.2.2
def Nxt (ts:List Tk):Prop:=∀ w r,ts=w :: r->lv w.2=0/\w.2≠wSet
theorem nxt_of {k:Nat}{s:List UInt8}{ts:List Tk}(h:lv s=0/\s≠wSet):Nxt ((k,s) :: ts):=fun w r e=>by
 injection e with e1 _
 rw [<- e1];exact h
theorem ends_of {k:Nat}{s:List UInt8}{ts:List Tk}(h:lv s=0):Ends 1 ((k,s) :: ts):=fun w r e=>by
 injection e with e1 _
 rw [<- e1]
 show lv s < 1
 omega
def setT (s:List UInt8 × Sx):List Tk:=(1,wSet) :: (1,s.1) :: (3,[61]) :: tkQ (exQ s.2)
theorem sets_at (fin:Pl):∀ (l:List (List UInt8 × Sx)) (acc:List (List UInt8 × Sx)) (r:RsC) (g:Nat) (ts:List Tk),l.all setF=true->(∀ s∈l,ClX s.2)->l.length < g->Nxt ts->AtT r ((l.map setT).flatten++ts)->
  ∃ l',(setsR fin g acc r).1=acc++l'/\L2 AkT l l'/\AtT (setsR fin g acc r).2 ts
 | [],acc,r,0,ts,_,_,hg,_,_=>by simp at hg
 | [],acc,r,g+1,ts,_,_,_,hn,h=>by
  have h:AtT r ts:=h
  have hi:isC wSet r=false:=by
   cases ts with
   | nil=>
    have:r.1=[]:=by simpa using h.1
    unfold isC
    rw [this];simp
   | cons w t=>
    obtain ⟨k,s⟩:=w
    rw [is_at h]
    exact decide_eq_false (hn _ _ rfl).2
  have e:setsR fin (g+1) acc r=(acc,r):=by
   show (if isC wSet r=true then _ else _)=_
   rw [if_neg (by rw [hi];decide)]
  rw [e]
  exact ⟨[],by simp,trivial,h⟩
 | s :: l,acc,r,0,ts,_,_,hg,_,_=>by simp at hg
 | s :: l,acc,r,g+1,ts,hf,hc,hg,hn,h=>by
  rw [List.all_cons,Bool.and_eq_true] at hf
  have hs:=hf.1
  unfold setF at hs
  rw [Bool.and_eq_true] at hs
  rw [List.map_cons,List.flatten_cons,List.append_assoc] at h
  have h:AtT r ((1,wSet) :: (1,s.1) :: (3,[61]) :: (tkQ (exQ s.2)++((l.map setT).flatten++ts))):=h
  have hi:isC wSet r=true:=by rw [is_at h,decide_eq_true rfl]
  have a1:=take_at h fin
  obtain ⟨n1,a2⟩:=name_at a1 hs.1 fin
  have a3:=take_at a2 fin
  have hE:Ends 1 ((l.map setT).flatten++ts):=by
   cases l with
   | nil=>exact fun w r e=>by have:=(hn w r e).1;omega
   | cons z l=>exact ends_of (by decide)
  obtain ⟨n2,a4⟩:=expr_at a3 (hc s List.mem_cons_self) hs.2 hE fin
  obtain ⟨l',e1,e2,e3⟩:=sets_at fin l (acc++[((nameR fin (takeR fin wSet r)).1.1,(exprR fin (takeR fin [61] (nameR fin (takeR fin wSet r)).2)).1)]) _ g ts hf.2 (fun x hx=>hc x (List.mem_cons_of_mem _ hx)) (by simp at hg;omega) hn a4
  have e:setsR fin (g+1) acc r=setsR fin g (acc++[((nameR fin (takeR fin wSet r)).1.1,(exprR fin (takeR fin [61] (nameR fin (takeR fin wSet r)).2)).1)]) (exprR fin (takeR fin [61] (nameR fin (takeR fin wSet r)).2)).2:=by
   show (if isC wSet r=true then _ else _)=_
   rw [if_pos hi]
  rw [e]
  refine ⟨((nameR fin (takeR fin wSet r)).1.1,(exprR fin (takeR fin [61] (nameR fin (takeR fin wSet r)).2)).1) :: l',?_,⟨⟨n1.symm,n2⟩,e2⟩,e3⟩
  rw [e1];simp
theorem tkQ_tb:∀ n,tkQ (tbQ n)=[]
 | 0=>rfl
 | n+1=>tkQ_tb n
theorem tkQ_flat {α:Type}{f:α->List Pq}{g:α->List Tk}(h:∀ x,tkQ (f x)=g x):∀ l:List α,tkQ ((l.map f).flatten)=(l.map g).flatten
 | []=>rfl
 | x :: l=>by rw [List.map_cons,List.flatten_cons,tkQ_app,h x,tkQ_flat h l];rfl
theorem len_flat {α:Type}{g:α->List Tk}(h:∀ x,1<=(g x).length):∀ l:List α,l.length<=((l.map g).flatten).length
 | []=>by simp
 | x :: l=>by
  have:=len_flat h l
  have:=h x
  rw [List.map_cons,List.flatten_cons,List.length_append,List.length_cons]
  omega
theorem tkQ_set (s:List UInt8 × Sx):tkQ (setQ s)=setT s:=by
 unfold setQ
 rw [tkQ_app];rfl
def grdT (g:Bool × Sx):List Tk:=if g.1=true then (1,wIf) :: tkQ (exQ g.2) else []
def onT (o:OnC):List Tk:=(1,wOn) :: (1,o.1) :: (grdT o.2.1++((1,wGo) :: (1,o.2.2.1) :: (o.2.2.2.1.map setT).flatten))
theorem tkQ_on (n:Nat) (o:OnC):tkQ (onQ n o)=onT o:=by
 have hg:tkQ (grdQ o.2.1)=grdT o.2.1:=by
  unfold grdQ grdT
  split
  ·rw [tkQ_app];rfl
  ·rfl
 unfold onQ onT
 rw [tkQ_app,tkQ_tb,List.nil_append,tkQ_app,tkQ_app,hg,tkQ_app,tkQ_app,tkQ_flat tkQ_set]
 show [(1,wOn),(1,o.1)]++(grdT o.2.1++([(1,wGo),(1,o.2.2.1)]++((o.2.2.2.1.map setT).flatten++[])))=_
 rw [List.append_nil];rfl
theorem on_at {r:RsC}{o:OnC}{ts:List Tk}(h:AtT r (onT o++ts)) (hf:onF o=true) (hc:OnCl o) (hn:Nxt ts) (fin:Pl):AkO o (onR fin r).1/\AtT (onR fin r).2 ts:=by
 obtain ⟨h1,h2,h3,h4⟩:=onF_parts hf
 have h:AtT r ((1,wOn) :: (1,o.1) :: (grdT o.2.1++((1,wGo) :: (1,o.2.2.1) :: (o.2.2.2.1.map setT).flatten)++ts)):=h
 have a1:=take_at h fin
 obtain ⟨n1,a2⟩:=name_at a1 h1 fin
 obtain ⟨R2,hR2⟩:∃ x,nameR fin (takeR fin wOn r)=x:=⟨_,rfl⟩
 rw [hR2] at n1 a2
 rw [List.append_assoc] at a2
 obtain ⟨G,hG⟩:∃ g:(Bool × Sx) × RsC,(if isC wIf R2.2=true then ((fun x=>((true,x.1),x.2)) (exprR fin (takeR fin wIf R2.2))) else ((false,noX),R2.2))=g:=⟨_,rfl⟩
 have hGp:o.2.1.1=G.1.1/\(o.2.1.1=true->Alk G.1.2 o.2.1.2.2)/\AtT G.2 ((1,wGo) :: (1,o.2.2.1) :: ((o.2.2.2.1.map setT).flatten++ts)):=by
  cases hb:o.2.1.1 with
  | true=>
   have e:grdT o.2.1=(1,wIf) :: tkQ (exQ o.2.1.2):=by unfold grdT;rw [if_pos hb]
   rw [e] at a2
   have a2:AtT R2.2 ((1,wIf) :: (tkQ (exQ o.2.1.2)++((1,wGo) :: (1,o.2.2.1) :: ((o.2.2.2.1.map setT).flatten++ts)))):=a2
   have hi:isC wIf R2.2=true:=by rw [is_at a2,decide_eq_true rfl]
   rw [if_pos hi] at hG
   obtain ⟨n2,a3⟩:=expr_at (take_at a2 fin) (hc.1 hb) (h2 hb) (ends_of (by decide)) fin
   rw [<- hG]
   exact ⟨rfl,fun _=>n2,a3⟩
  | false=>
   have e:grdT o.2.1=[]:=by unfold grdT;rw [if_neg (by rw [hb];decide)]
   rw [e] at a2
   have a2:AtT R2.2 ((1,wGo) :: (1,o.2.2.1) :: ((o.2.2.2.1.map setT).flatten++ts)):=a2
   have hi:isC wIf R2.2=false:=by rw [is_at a2];decide
   rw [if_neg (by rw [hi];decide)] at hG
   rw [<- hG]
   exact ⟨rfl,fun q=>absurd q (by decide),a2⟩
 obtain ⟨g1,g2,g3⟩:=hGp
 have a4:=take_at g3 fin
 obtain ⟨n3,a5⟩:=name_at a4 h3 fin
 obtain ⟨R5,hR5⟩:∃ x,nameR fin (takeR fin wGo G.2)=x:=⟨_,rfl⟩
 rw [hR5] at n3 a5
 have hlen:o.2.2.2.1.length < R5.2.1.length+1:=by
  have e1:(R5.2.1.map tkW).length=((o.2.2.2.1.map setT).flatten++ts).length:=by rw [a5.1]
  have e2:=len_flat (g:=setT) (fun x=>by unfold setT;simp) o.2.2.2.1
  rw [List.length_map,List.length_append] at e1
  omega
 obtain ⟨l',s1,s2,s3⟩:=sets_at fin o.2.2.2.1 [] R5.2 (R5.2.1.length+1) ts h4 hc.2 hlen hn a5
 have e:onR fin r=((R2.1.1,G.1,R5.1.1,(setsR fin (R5.2.1.length+1) [] R5.2).1,R2.1.2),(setsR fin (R5.2.1.length+1) [] R5.2).2):=by
  unfold onR
  simp only
  rw [hR2,hG,hR5]
 rw [e]
 refine ⟨⟨n1.symm,g1,g2,n3.symm,?_⟩,s3⟩
 show L2 AkT o.2.2.2.1 (setsR fin (R5.2.1.length+1) [] R5.2).1
 rw [s1]
 exact s2
