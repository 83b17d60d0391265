import Derived.Test.YtppefcdkgejfbaaGreatDoorXac19
set_option maxRecDepth 100000
set_option maxHeartbeats 32000000
namespace Go.Proofs.YtppefcdkgejfbaaGreatDoor
open Go.RowKit Go.Lib
set_option linter.unusedSimpArgs false
set_option linter.unusedVariables false
attribute [local go_sem ↓] Go.wp_at_zero Go.wp_at_succ
theorem row_nil {w:World}(t0:ByteArray) (t1:Int) (t2:Option Addr) (t3 t4:Nat) (t5:Option Addr) (t6 t7:Nat) (t8:Option Addr) (t9 t10:Nat) (t11:Option Addr) (t12 t13:Nat) {vs:List Vr}(hv:RdV w (.slice t5 t6 t7) vs) (hl:vs.length<=10000) {okn:Nat->Prop}{N:List Nd}(hN:RdNd okn w N (.slice t2 t3 t4))
  (i k:Nat) (ev tg:ByteArray) {oks:Nat->Prop}{sets:List (List UInt8 × Sx)}(s1:Option Addr) (ns s3:Nat) (hs:RdK oks w 2 (rSet oks w) sets (.slice s1 ns s3)) (hsk:∀ s∈sets,ExOk s.2/\cntX s.2<=1000) (hsl:sets.length<=100000) (y4 y5:Int) :
  Calls Tryz.prog 17 #[.agg #[.string t0,.int .i64 t1,.slice t2 t3 t4,.slice t5 t6 t7,.slice t8 t9 t10,.slice t11 t12 t13],.int .i64 (i:Int),.int .i64 (k:Int),.agg #[.string ev,.nilIface,.string tg,.slice s1 ns s3,.int .i64 y4,.int .i64 y5]] w fun e w'=>∃ ga gn gc sa sn sc',e=.returned (.agg #[.int .i64 (i:Int),.int .i64 (k:Int),.string ev,.slice ga gn gc,.int .i64 (fdB N tg),.int .i64 (mtB N i (fdB N tg)),.slice sa sn sc'])/\Below w.heap.size w w':=by
 have hFd:∀ w1,Below w.heap.size w w1->Calls Tryz.prog 37 #[.slice t2 t3 t4,.string tg] w1 fun e w'=>e=.returned (.int .i64 (fdB N tg))/\Below w1.heap.size w1 w':=fun w1 b=>find_any (hN.on kp_nd b) tg
 obtain ⟨tt,htt⟩:∃ x,fdB N tg=x:=⟨_,rfl⟩
 have hMt:∀ w1,Below w.heap.size w w1->Calls Tryz.prog 38 #[.slice t2 t3 t4,.int .i64 (i:Int),.int .i64 tt] w1 fun e w'=>e=.returned (.int .i64 (mtB N i tt))/\Below w1.heap.size w1 w':=fun w1 b=>meet_any (hN.on kp_nd b) i tt
 simp only [htt] at hFd ⊢
 obtain ⟨sc,hsc⟩:∃ x,mtB N i tt=x:=⟨_,rfl⟩
 simp only [hsc] at hMt ⊢
 have hCd:∀ (x:Sx) w1,Below w.heap.size w w1->ExOk x->cntX x<=1000->Calls Tryz.prog 39 #[.agg #[.string t0,.int .i64 t1,.slice t2 t3 t4,.slice t5 t6 t7,.slice t8 t9 t10,.slice t11 t12 t13],exX x] w1 fun e w'=>∃ a n c,e=.returned (.slice a n c)/\Below w1.heap.size w1 w':=fun x w1 b h1 h2=>tcode_any t0 t1 t2 t3 t4 t5 t6 t7 t8 t9 t10 t11 t12 t13 (hv.below b Nat.le.refl) hl h1 h2
 have hNo:∀ s w1,Below w.heap.size w w1->Calls Tryz.prog 25 #[.slice t5 t6 t7,.string s] w1 fun e w'=>∃ x,e=.returned (.int .i64 x)/\Below w1.heap.size w1 w':=fun s w1 b=>(numberOf_any (hv.below b Nat.le.refl) hl s).mono (fun e w' ⟨h1,h2⟩=>⟨_,h1,h2⟩)
 have hns:ns=sets.length:=by
  obtain ⟨_,_,he,_⟩:=hs.form
  simp only [Value.slice.injEq] at he
  exact he.2.1
 have HNS:=hidOf hns
 have hnl:ns<=100000:=by omega
 have HS:=hidOf hs
 have HSK:=hidOf hsk
 have hs3:ns<=s3/\s3<=maxLen:=by
  obtain ⟨_,_,he,h1,h2⟩:=hs.form
  simp only [Value.slice.injEq] at he
  omega
 obtain ⟨hs3a,hs3b⟩:=hs3
 unfold maxLen at hs3b
 clear hv hN htt hsc hns hs hsk hl hsl
 ·have hal:Below w.heap.size w (((w.alloc (.cells #[.string t0,.int .i64 t1,.slice t2 t3 t4,.slice t5 t6 t7,.slice t8 t9 t10,.slice t11 t12 t13] 35)).alloc (.cells #[.string ev,.nilIface,.string tg,.slice s1 ns s3,.int .i64 y4,.int .i64 y5] 88)).alloc (.cells #[.int .i64 0,.int .i64 0,.string ⟨#[]⟩,.slice none 0 0,.int .i64 0,.int .i64 0,.slice none 0 0] 54)):=(((Below.refl _ w).alloc Nat.le.refl _).alloc (by simp) _).alloc (by simp;omega) _
  have hT:Bn (((w.alloc (.cells #[.string t0,.int .i64 t1,.slice t2 t3 t4,.slice t5 t6 t7,.slice t8 t9 t10,.slice t11 t12 t13] 35)).alloc (.cells #[.string ev,.nilIface,.string tg,.slice s1 ns s3,.int .i64 y4,.int .i64 y5] 88)).alloc (.cells #[.int .i64 0,.int .i64 0,.string ⟨#[]⟩,.slice none 0 0,.int .i64 0,.int .i64 0,.slice none 0 0] 54)) w.heap.size [.string t0,.int .i64 t1,.slice t2 t3 t4,.slice t5 t6 t7,.slice t8 t9 t10,.slice t11 t12 t13]:=((Bn.new w [.string t0,.int .i64 t1,.slice t2 t3 t4,.slice t5 t6 t7,.slice t8 t9 t10,.slice t11 t12 t13] 35 _ rfl).on ((Below.refl _ _).alloc Nat.le.refl _)).on ((Below.refl _ _).alloc Nat.le.refl _)
  have hO:Bn (((w.alloc (.cells #[.string t0,.int .i64 t1,.slice t2 t3 t4,.slice t5 t6 t7,.slice t8 t9 t10,.slice t11 t12 t13] 35)).alloc (.cells #[.string ev,.nilIface,.string tg,.slice s1 ns s3,.int .i64 y4,.int .i64 y5] 88)).alloc (.cells #[.int .i64 0,.int .i64 0,.string ⟨#[]⟩,.slice none 0 0,.int .i64 0,.int .i64 0,.slice none 0 0] 54)) (w.heap.size+1) [.string ev,.nilIface,.string tg,.slice s1 ns s3,.int .i64 y4,.int .i64 y5]:=(Bn.new _ [.string ev,.nilIface,.string tg,.slice s1 ns s3,.int .i64 y4,.int .i64 y5] 88 (w.heap.size+1) (by simp)).on ((Below.refl _ _).alloc Nat.le.refl _)
  have hR:Bn (((w.alloc (.cells #[.string t0,.int .i64 t1,.slice t2 t3 t4,.slice t5 t6 t7,.slice t8 t9 t10,.slice t11 t12 t13] 35)).alloc (.cells #[.string ev,.nilIface,.string tg,.slice s1 ns s3,.int .i64 y4,.int .i64 y5] 88)).alloc (.cells #[.int .i64 0,.int .i64 0,.string ⟨#[]⟩,.slice none 0 0,.int .i64 0,.int .i64 0,.slice none 0 0] 54)) (w.heap.size+2) [.int .i64 0,.int .i64 0,.string ⟨#[]⟩,.slice none 0 0,.int .i64 0,.int .i64 0,.slice none 0 0]:=Bn.new _ [.int .i64 0,.int .i64 0,.string ⟨#[]⟩,.slice none 0 0,.int .i64 0,.int .i64 0,.slice none 0 0] 54 (w.heap.size+2) (by simp)
  have hsx:(((w.alloc (.cells #[.string t0,.int .i64 t1,.slice t2 t3 t4,.slice t5 t6 t7,.slice t8 t9 t10,.slice t11 t12 t13] 35)).alloc (.cells #[.string ev,.nilIface,.string tg,.slice s1 ns s3,.int .i64 y4,.int .i64 y5] 88)).alloc (.cells #[.int .i64 0,.int .i64 0,.string ⟨#[]⟩,.slice none 0 0,.int .i64 0,.int .i64 0,.slice none 0 0] 54)).heap.size=w.heap.size+3:=by simp
  go_enter Tryz.func17,Tryz.ntmps17
  go_upto_region 1 with fail
  generalize (((w.alloc (.cells #[.string t0,.int .i64 t1,.slice t2 t3 t4,.slice t5 t6 t7,.slice t8 t9 t10,.slice t11 t12 t13] 35)).alloc (.cells #[.string ev,.nilIface,.string tg,.slice s1 ns s3,.int .i64 y4,.int .i64 y5] 88)).alloc (.cells #[.int .i64 0,.int .i64 0,.string ⟨#[]⟩,.slice none 0 0,.int .i64 0,.int .i64 0,.slice none 0 0] 54))=wx at *
  have HSX:=hidOf hsx
  clear hsx
  have ca0:=(hT 0 _ rfl).1
  have ca1:=(hT 1 _ rfl).1
  have ca2:=(hT 2 _ rfl).1
  have ca3:=(hT 3 _ rfl).1
  have ca4:=(hT 4 _ rfl).1
  have ca5:=(hT 5 _ rfl).1
  have cb0:=(hO 0 _ rfl).1
  have cb1:=(hO 1 _ rfl).1
  have cb2:=(hO 2 _ rfl).1
  have cb3:=(hO 3 _ rfl).1
  have cb4:=(hO 4 _ rfl).1
  have cb5:=(hO 5 _ rfl).1
  have hfd:=hFd wx hal
  go_upto_region 2 with (first
   | (go_at_call 37;refine hfd.mono ?_;rintro e w1 ⟨rfl,b1⟩)
   | fail)
  clear ca0 ca1 ca2 ca3 ca4 ca5 cb0 cb1 cb2 cb3 cb4 cb5 hfd
  have hT1:=hT.on b1
  have hO1:=hO.on b1
  have hb1:=hal.trans (b1.mono hal.size)
  have z0:=(hO1 0 _ rfl).1
  have z2:=(hT1 2 _ rfl).1
  have lO:=hO1.lt
  have lT:=hT1.lt
  have hbd:Below w.heap.size w w1.drew:=hb1.drew
  have hal1:Below w1.heap.size w1 (w1.alloc (.cells #[.int .i64 0,.int .i64 0,.string ⟨#[]⟩,.slice none 0 0,.int .i64 0,.int .i64 0,.slice none 0 0] 54)).drew:=((Below.refl _ _).alloc Nat.le.refl _).drew
  have hba:Below w.heap.size w (w1.alloc (.cells #[.int .i64 0,.int .i64 0,.string ⟨#[]⟩,.slice none 0 0,.int .i64 0,.int .i64 0,.slice none 0 0] 54)).drew:=hb1.trans (hal1.mono hb1.size)
  have hRn:Bn (w1.alloc (.cells #[.int .i64 0,.int .i64 0,.string ⟨#[]⟩,.slice none 0 0,.int .i64 0,.int .i64 0,.slice none 0 0] 54)).drew w1.heap.size [.int .i64 0,.int .i64 0,.string ⟨#[]⟩,.slice none 0 0,.int .i64 0,.int .i64 0,.slice none 0 0]:=Bn.new w1 [.int .i64 0,.int .i64 0,.string ⟨#[]⟩,.slice none 0 0,.int .i64 0,.int .i64 0,.slice none 0 0] 54 _ rfl
  have hxw:wx.heap.size<=w1.heap.size:=b1.size
  have y0:=z0
  have y2:=z2
  go_cut [10] (fun v10 wc=>∃ Rb,v10=.pointer (some ⟨Rb,0,none⟩)/\wx.heap.size<=Rb/\Hid (Bn wc Rb [.int .i64 (i:Int),.int .i64 (k:Int),.string ev,.slice none 0 0,.int .i64 tt,.int .i64 sc,.slice none 0 0])/\Below wx.heap.size wx wc)
  case first=>
   go_region_held_law (fun w'=>w'.cell? ⟨w.heap.size+1,0,none⟩=some (.string ev)/\w'.cell? ⟨w.heap.size,2,none⟩=some (.slice t2 t3 t4))
    ((refine ⟨?_,?_⟩<;>(repeat (with_reducible first|exact y0|exact y2|refine cellB_dr ?_|refine cellB_al ?_|refine cellB_set nO ?_|refine cellB_set nT ?_))<;>done))
    (first
     | (go_at_call 38;(with_reducible refine (hMt _ hbd).mono ?_);rintro e w2 ⟨rfl,b2⟩;have hB2:Below w1.heap.size w1 w2:=Below.nxtd (Below.refl _ _) b2;have y0:=(hB2.cell (p:=⟨w.heap.size+1,0,none⟩) lO).trans z0;have y2:=(hB2.cell (p:=⟨w.heap.size,2,none⟩) lT).trans z2;have nO:w2.heap.size≠w.heap.size+1:=(by have:=hB2.size;omega);have nT:w2.heap.size≠w.heap.size:=(by have:=hB2.size;omega))
     | (go_at_call 38;(with_reducible refine (hMt _ hba).mono ?_);rintro e w2 ⟨rfl,b2⟩;have hB2:Below w1.heap.size w1 w2:=Below.nxt hal1 b2;have hRz:=hRn.on b2;have y0:=(hB2.cell (p:=⟨w.heap.size+1,0,none⟩) lO).trans z0;have y2:=(hB2.cell (p:=⟨w.heap.size,2,none⟩) lT).trans z2;have nO:w1.heap.size≠w.heap.size+1:=(by omega);have nT:w1.heap.size≠w.heap.size:=(by omega);have f0:=hRz 0 _ rfl;have f1:=hRz 1 _ rfl;have f2:=hRz 2 _ rfl;have f3:=hRz 3 _ rfl;have f4:=hRz 4 _ rfl;have f5:=hRz 5 _ rfl;have f6:=hRz 6 _ rfl;obtain ⟨m0,o0⟩:=f0;obtain ⟨m1,o1⟩:=f1;obtain ⟨m2,o2⟩:=f2;obtain ⟨m3,o3⟩:=f3;obtain ⟨m4,o4⟩:=f4;obtain ⟨m5,o5⟩:=f5;obtain ⟨m6,o6⟩:=f6)
     | fail)
   all_goals (
    go_wp2
    go_meet
    case rel=>
     first
      | exact ⟨w1.heap.size,rfl,hxw,((((((((hRz).set (i:=0) (by simp) (.int .i64 (i:Int))).set (i:=1) (by simp) (.int .i64 (k:Int))).set (i:=2) (by simp) (.string ev)).set (i:=3) (by simp) (.slice none 0 0)).set (i:=4) (by simp) (.int .i64 tt)).set (i:=5) (by simp) (.int .i64 sc)).set (i:=6) (by simp) (.slice none 0 0)),(b1.trans (hB2.mono b1.size)).trans (putL_below [.int .i64 (i:Int),.int .i64 (k:Int),.string ev,.slice none 0 0,.int .i64 tt,.int .i64 sc,.slice none 0 0] w2 w1.heap.size 0 (Below.refl _ _) hxw)⟩
      | exact ⟨w2.heap.size,rfl,Nat.le_trans hxw hB2.size,Bn.new w2 [.int .i64 (i:Int),.int .i64 (k:Int),.string ev,.slice none 0 0,.int .i64 tt,.int .i64 sc,.slice none 0 0] 54 _ rfl,(b1.trans (hB2.mono b1.size)).alloc (Nat.le_trans b1.size hB2.size) _⟩)
  case rest=>
   obtain ⟨Rb,rfl,hRb,HRB,hBc⟩:=hcut
   have hbc:Below w.heap.size w wc:=hal.trans (hBc.mono hal.size)
   have hOc:=hO.on hBc
   have hwx:=HSX.out
   have cb1:=(hOc 1 _ rfl).1
   obtain ⟨wl,hwl⟩:∃ x,x=wc:=⟨_,rfl⟩
   subst hwl
   have HRL:=HRB
   have hBl:=hBc
   have hbl:Below w.heap.size w wl:=hal.trans (hBl.mono hal.size)
   have hOl:=hO.on hBl
   have HTL:=hidOf (hT.on hBl)
   have HRT:=hidOf (hR.on hBl)
   have cb3:=(hOl 3 _ rfl).1
   have hRl:Rb < wl.heap.size:=HRL.out.lt
   have hTl:w.heap.size < wl.heap.size:=HTL.out.lt
   obtain ⟨i0,hi,hz0,hz1,hz2⟩:=info_parts Tryz.infoAsg
   go_wp2
   go_loopw [40] (fun ix wr=>∃ (j:Nat) (ta:Option Addr) (tc:Nat) (cs:List Value),j<=ns/\ix=.int .i64 (j:Int)/\Hid (Bn wr Rb [.int .i64 (i:Int),.int .i64 (k:Int),.string ev,.slice none 0 0,.int .i64 tt,.int .i64 sc,.slice ta j tc])/\Hid (wr.ownsRow wl.heap.size 122 2 (.slice ta j tc) j cs)/\Hid (Fx Rb wl wr)) (fun ix _=>ns - (RowKit.intOf ix).toNat)
   case atStart=>exact ⟨0,none,0,[],Nat.zero_le _,rfl,HRL,World.ownsRow_nil _ _ _ _,Fx.refl _ _⟩
   case round=>
    obtain ⟨j,ta,tc,cs,hj,rfl,HRR,HOW,HFX⟩:=hrel
    have hFs:=HFX.out.size
    have hbr:Below w.heap.size w wr:=HFX.out.bel hbl (by omega) Nat.le.refl
    by_cases hlt:j < ns
    ·have hjl:j < sets.length:=by rw [<- HNS.out];exact hlt
     obtain ⟨b,off,rfl,hblk,hc⟩:=setQ_at HS.out j hjl
     have hk:=HSK.out _ (List.getElem_mem hjl)
     obtain ⟨q,hq⟩:∃ q,sets[j]=q:=⟨_,rfl⟩
     rw [hq] at hc hk
     obtain ⟨hk1,hk2⟩:=hk
     obtain ⟨s0,hs0⟩:∃ s0,sV q.1=.string s0:=⟨_,rfl⟩
     rcases exX_form q.2 with hxy|⟨u,y,hxy⟩
     ·rw [hs0,hxy] at hc
      have hcd:=fun w1 (bw:Below w.heap.size w w1)=>hCd q.2 w1 bw hk1 hk2
      simp only [hxy] at hcd
      have hno:=hNo s0
      have C0:=(hbr.cell (p:=⟨b,off+j*2+0,none⟩) hblk).trans (hc 0 _ rfl)
      have C1:=(hbr.cell (p:=⟨b,off+j*2+1,none⟩) hblk).trans (hc 1 _ rfl)
      rw [Nat.add_zero] at C0
      have i1:(j:Int) < (ns:Int):=by omega
      have i2:(0:Int)<=(j:Int):=by omega
      have hal7:Below wr.heap.size wr (wr.alloc (.cells #[.string s0,.nilIface] 120)):=(Below.refl _ _).alloc Nat.le.refl _
      have hY:=Bn.new wr [.string s0,.nilIface] 120 _ rfl
      clear hc hq hs0 hxy hk1 hk2 cb3 hOl
      go_upto_region 8 with fail
      clear C0 C1
      have hby:=hbr.trans (hal7.mono hbr.size)
      have hRy:=HRR.out.on hal7
      have HTY:=(HTL.out.fx HFX.out (by omega)).on hal7
      have HFY:Hid (Fx Rb wl (wr.alloc (.cells #[.string s0,.nilIface] 120))):=HFX.out.andD hal7 hFs
      have HOY:Hid ((wr.alloc (.cells #[.string s0,.nilIface] 120)).ownsRow wl.heap.size 122 2 (.slice ta j tc) j cs):=ownsRow_keep HOW.out (fun g hg=>hal7.block g (ownsRow_lt HOW.out g hg).2)
      have HYL:Hid (∀ g,(Value.slice ta j tc).ownBlock=some g->g < wr.heap.size):=fun g hg=>(ownsRow_lt HOW.out g hg).2
      obtain ⟨Y,hYe⟩:∃ Y,wr.heap.size=Y:=⟨_,rfl⟩
      rw [hYe] at hY hFs HYL ⊢
      generalize (wr.alloc (.cells #[.string s0,.nilIface] 120))=wy at *
      clear hYe hal7 HRR HOW HFX hbr
      have hly:wl.heap.size<=wy.heap.size:=HFY.out.size
      have hbyd:Below w.heap.size w wy.drew:=hby.drew
      have HYO:=hidOf (fun g (hg:(Value.slice ta j tc).ownBlock=some g)=>ownsRow_lt HOY.out g hg)
      obtain ⟨T,hTe⟩:∃ T,w.heap.size=T:=⟨_,rfl⟩
      rw [hTe] at HTY hTl ⊢
      have hTR:T < Rb:=by omega
      have hTY:T < Y:=by omega
      have za0:=(HTY 0 _ rfl).1
      have za1:=(HTY 1 _ rfl).1
      have za2:=(HTY 2 _ rfl).1
      have za3:=(HTY 3 _ rfl).1
      have za4:=(HTY 4 _ rfl).1
      have za5:=(HTY 5 _ rfl).1
      have ya0:=za0
      have ya1:=za1
      have ya2:=za2
      have ya3:=za3
      have ya4:=za4
      have ya5:=za5
      have zb0:=(hY 0 _ rfl).1
      have zb1:=(hY 1 _ rfl).1
      have yb0:=zb0
      have yb1:=zb1
      have q6:=(hRy 6 _ rfl).1
      have k6:=q6
      have lT:=HTY.lt
      have lY:=hY.lt
      have lR:=hRy.lt
      have nT:Rb≠T:=by omega
      have nY:Rb≠Y:=by omega
      refine wp_region_held_drew (S:=(fun w'=>w'.cell? ⟨T,0,none⟩=some (.string t0)/\w'.cell? ⟨T,1,none⟩=some (.int .i64 t1)/\w'.cell? ⟨T,2,none⟩=some (.slice t2 t3 t4)/\w'.cell? ⟨T,3,none⟩=some (.slice t5 t6 t7)/\w'.cell? ⟨T,4,none⟩=some (.slice t8 t9 t10)/\w'.cell? ⟨T,5,none⟩=some (.slice t11 t12 t13)/\w'.cell? ⟨Y,0,none⟩=some (.string s0)/\w'.cell? ⟨Y,1,none⟩=some (.nilIface))) (by kernel_rfl) ?_ (fun hHeld=>?_)
      ·(try dsimp only);(refine ⟨?_,?_,?_,?_,?_,?_,?_,?_⟩<;>(repeat (with_reducible first|exact ya0|exact ya1|exact ya2|exact ya3|exact ya4|exact ya5|exact yb0|exact yb1|refine cellB_dr ?_|refine cellB_al ?_|refine cellB_set nT ?_|refine cellB_set nY ?_))<;>done)
      refine wpAnyH_take (i:=0) (oi:=_) (v:=_) rfl (by kernel_rfl) (by kernel_rfl) (by kernel_rfl) (fun _ _ _ h=>h) (Or.inl ⟨by rfl,by intro w hSw;(try dsimp only at hSw);go_simp;try (with_reducible rfl)⟩) (by assumption) ?_
      (try simp only [Act.put,List.setIfInBounds_toArray,List.set_cons_zero,List.set_cons_succ])
      refine wpAnyH_take (i:=2) (oi:=_) (v:=_) rfl (by kernel_rfl) (by kernel_rfl) (by kernel_rfl) (fun _ _ _ h=>h) (Or.inl ⟨by rfl,by intro w hSw;(try dsimp only at hSw);go_simp;try (with_reducible rfl)⟩) (by assumption) ?_
      (try simp only [Act.put,List.setIfInBounds_toArray,List.set_cons_zero,List.set_cons_succ])
      refine wpAnyH_take (i:=3) (oi:=_) (v:=_) rfl (by kernel_rfl) (by kernel_rfl) (by kernel_rfl) (fun _ _ _ h=>h) (Or.inl ⟨by rfl,by intro w hSw;(try dsimp only at hSw);go_simp;try (with_reducible rfl)⟩) (by assumption) ?_
      (try simp only [Act.put,List.setIfInBounds_toArray,List.set_cons_zero,List.set_cons_succ])
      refine wpAnyH_take (i:=4) (oi:=_) (v:=_) rfl (by kernel_rfl) (by kernel_rfl) (by kernel_rfl) (fun _ _ _ h=>h) (Or.inl ⟨by rfl,by intro w hSw;(try dsimp only at hSw);go_simp;try (with_reducible rfl)⟩) (by assumption) ?_
      (try simp only [Act.put,List.setIfInBounds_toArray,List.set_cons_zero,List.set_cons_succ])
      refine wpAnyH_take (i:=5) (oi:=_) (v:=_) rfl (by kernel_rfl) (by kernel_rfl) (by kernel_rfl) (fun _ _ _ h=>h) (Or.inl ⟨by rfl,by intro w hSw;(try dsimp only at hSw);go_simp;try (with_reducible rfl)⟩) (by assumption) ?_
      (try simp only [Act.put,List.setIfInBounds_toArray,List.set_cons_zero,List.set_cons_succ])
      refine wpAnyH_take (i:=7) (oi:=_) (v:=_) rfl (by kernel_rfl) (by kernel_rfl) (by kernel_rfl) (fun _ _ _ h=>h) (Or.inl ⟨by rfl,by intro w hSw;(try dsimp only at hSw);go_simp;try (with_reducible rfl)⟩) (by assumption) ?_
      (try simp only [Act.put,List.setIfInBounds_toArray,List.set_cons_zero,List.set_cons_succ])
      refine wpAnyH_take (i:=8) (oi:=_) (v:=_) rfl (by kernel_rfl) (by kernel_rfl) (by kernel_rfl) (fun _ _ _ h=>h) (Or.inl ⟨by rfl,by intro w hSw;(try dsimp only at hSw);go_simp;try (with_reducible rfl)⟩) (by assumption) ?_
      (try simp only [Act.put,List.setIfInBounds_toArray,List.set_cons_zero,List.set_cons_succ])
      refine wpAnyH_take (i:=9) (oi:=_) (v:=_) rfl (by kernel_rfl) (by kernel_rfl) (by kernel_rfl) (fun _ _ _ h=>h) (Or.inl ⟨by rfl,by intro w hSw;(try dsimp only at hSw);go_simp;try (with_reducible rfl)⟩) (by assumption) ?_
      (try simp only [Act.put,List.setIfInBounds_toArray,List.set_cons_zero,List.set_cons_succ])
      refine wpAnyH_ready (rs:=[1,6]) (by kernel_rfl) (by simp) ?_
      refine AllReadyH.cons rfl (fun K hK=>?_) (AllReadyH.cons rfl (fun K hK=>?_) AllReadyH.nil)
      ·go_simp
       refine hK.out _ _ ?_ (fun hHeld=>?_)
       ·(try dsimp only);(refine ⟨?_,?_,?_,?_,?_,?_,?_,?_⟩<;>(repeat (with_reducible first|exact ya0|exact ya1|exact ya2|exact ya3|exact ya4|exact ya5|exact yb0|exact yb1|refine cellB_dr ?_|refine cellB_al ?_|refine cellB_set nT ?_|refine cellB_set nY ?_))<;>done)
       clear hK K
       refine wpAnyH_ready (rs:=[6]) (by kernel_rfl) (by simp) ?_
       refine AllReadyH.cons rfl (fun K hK=>?_) AllReadyH.nil
       go_simp
       go_wp2_with (first|(go_at_call 25;(with_reducible refine (hno _ hbyd).mono ?_);rintro e w3 ⟨x3,rfl,b3⟩;have hB3:Below wy.heap.size wy w3:=Below.nxtd (Below.refl _ _) b3;have hb3:=hby.trans (hB3.mono hby.size);have ya0:=(hB3.cell (p:=⟨T,0,none⟩) lT).trans za0;have ya1:=(hB3.cell (p:=⟨T,1,none⟩) lT).trans za1;have ya2:=(hB3.cell (p:=⟨T,2,none⟩) lT).trans za2;have ya3:=(hB3.cell (p:=⟨T,3,none⟩) lT).trans za3;have ya4:=(hB3.cell (p:=⟨T,4,none⟩) lT).trans za4;have ya5:=(hB3.cell (p:=⟨T,5,none⟩) lT).trans za5;have yb0:=(hB3.cell (p:=⟨Y,0,none⟩) lY).trans zb0;have yb1:=(hB3.cell (p:=⟨Y,1,none⟩) lY).trans zb1;have k6:=(hB3.cell (p:=⟨Rb,6,none⟩) lR).trans q6)|(go_at_call 39;(with_reducible refine (hcd _ hb3).mono ?_);rintro e w4 ⟨ca,cn,cc,rfl,b4⟩;have hB4:Below wy.heap.size wy w4:=Below.nxt hB3 b4;have ya0:=(hB4.cell (p:=⟨T,0,none⟩) lT).trans za0;have ya1:=(hB4.cell (p:=⟨T,1,none⟩) lT).trans za1;have ya2:=(hB4.cell (p:=⟨T,2,none⟩) lT).trans za2;have ya3:=(hB4.cell (p:=⟨T,3,none⟩) lT).trans za3;have ya4:=(hB4.cell (p:=⟨T,4,none⟩) lT).trans za4;have ya5:=(hB4.cell (p:=⟨T,5,none⟩) lT).trans za5;have yb0:=(hB4.cell (p:=⟨Y,0,none⟩) lY).trans zb0;have yb1:=(hB4.cell (p:=⟨Y,1,none⟩) lY).trans zb1;have k6:=(hB4.cell (p:=⟨Rb,6,none⟩) lR).trans q6;have hal4:Below w4.heap.size w4 (w4.alloc (.cells #[.int .i64 x3,.slice ca cn cc] 122)):=(Below.refl _ _).alloc Nat.le.refl _;have hB5:Below wy.heap.size wy (w4.alloc (.cells #[.int .i64 x3,.slice ca cn cc] 122)):=hB4.trans (hal4.mono hB4.size);have k6a:=(hB5.cell (p:=⟨Rb,6,none⟩) lR).trans q6;have o2:=ownsRow_keep HOY.out (fun g hg=>hB5.block g (HYO.out g hg).2);have s2:=src_row (P:=Tryz.prog) (t:=52) (e:=122) Tryz.underlying52 w4 [.int .i64 x3,.slice ca cn cc] rfl (by simp [Value.oneCell']);have hs5:wl.heap.size<=(w4.alloc (.cells #[.int .i64 x3,.slice ca cn cc] 122)).heap.size:=Nat.le_trans hly hB5.size;have hR5:=hRy.on hB5)|fail)
       refine hK.out _ _ ?_ (fun hHeld=>?_)
       ·(try dsimp only);(refine ⟨?_,?_,?_,?_,?_,?_,?_,?_⟩<;>(repeat (with_reducible first|exact ya0|exact ya1|exact ya2|exact ya3|exact ya4|exact ya5|exact yb0|exact yb1|refine cellB_dr ?_|refine cellB_al ?_|refine cellB_set nT ?_|refine cellB_set nY ?_))<;>done)
       clear hK K
       refine wpAnyH_ready (rs:=[10]) (by kernel_rfl) (by simp) ?_
       refine AllReadyH.cons rfl (fun K hK=>?_) AllReadyH.nil
       go_simp
       go_wp2_with (first|(go_at_call 25;(with_reducible refine (hno _ hbyd).mono ?_);rintro e w3 ⟨x3,rfl,b3⟩;have hB3:Below wy.heap.size wy w3:=Below.nxtd (Below.refl _ _) b3;have hb3:=hby.trans (hB3.mono hby.size);have ya0:=(hB3.cell (p:=⟨T,0,none⟩) lT).trans za0;have ya1:=(hB3.cell (p:=⟨T,1,none⟩) lT).trans za1;have ya2:=(hB3.cell (p:=⟨T,2,none⟩) lT).trans za2;have ya3:=(hB3.cell (p:=⟨T,3,none⟩) lT).trans za3;have ya4:=(hB3.cell (p:=⟨T,4,none⟩) lT).trans za4;have ya5:=(hB3.cell (p:=⟨T,5,none⟩) lT).trans za5;have yb0:=(hB3.cell (p:=⟨Y,0,none⟩) lY).trans zb0;have yb1:=(hB3.cell (p:=⟨Y,1,none⟩) lY).trans zb1;have k6:=(hB3.cell (p:=⟨Rb,6,none⟩) lR).trans q6)|(go_at_call 39;(with_reducible refine (hcd _ hb3).mono ?_);rintro e w4 ⟨ca,cn,cc,rfl,b4⟩;have hB4:Below wy.heap.size wy w4:=Below.nxt hB3 b4;have ya0:=(hB4.cell (p:=⟨T,0,none⟩) lT).trans za0;have ya1:=(hB4.cell (p:=⟨T,1,none⟩) lT).trans za1;have ya2:=(hB4.cell (p:=⟨T,2,none⟩) lT).trans za2;have ya3:=(hB4.cell (p:=⟨T,3,none⟩) lT).trans za3;have ya4:=(hB4.cell (p:=⟨T,4,none⟩) lT).trans za4;have ya5:=(hB4.cell (p:=⟨T,5,none⟩) lT).trans za5;have yb0:=(hB4.cell (p:=⟨Y,0,none⟩) lY).trans zb0;have yb1:=(hB4.cell (p:=⟨Y,1,none⟩) lY).trans zb1;have k6:=(hB4.cell (p:=⟨Rb,6,none⟩) lR).trans q6;have hal4:Below w4.heap.size w4 (w4.alloc (.cells #[.int .i64 x3,.slice ca cn cc] 122)):=(Below.refl _ _).alloc Nat.le.refl _;have hB5:Below wy.heap.size wy (w4.alloc (.cells #[.int .i64 x3,.slice ca cn cc] 122)):=hB4.trans (hal4.mono hB4.size);have k6a:=(hB5.cell (p:=⟨Rb,6,none⟩) lR).trans q6;have o2:=ownsRow_keep HOY.out (fun g hg=>hB5.block g (HYO.out g hg).2);have s2:=src_row (P:=Tryz.prog) (t:=52) (e:=122) Tryz.underlying52 w4 [.int .i64 x3,.slice ca cn cc] rfl (by simp [Value.oneCell']);have hs5:wl.heap.size<=(w4.alloc (.cells #[.int .i64 x3,.slice ca cn cc] 122)).heap.size:=Nat.le_trans hly hB5.size;have hR5:=hRy.on hB5)|fail)
       refine hK.out _ _ ?_ (fun hHeld=>?_)
       ·(try dsimp only);(refine ⟨?_,?_,?_,?_,?_,?_,?_,?_⟩<;>(repeat (with_reducible first|exact ya0|exact ya1|exact ya2|exact ya3|exact ya4|exact ya5|exact yb0|exact yb1|refine cellB_dr ?_|refine cellB_al ?_|refine cellB_set nT ?_|refine cellB_set nY ?_))<;>done)
       clear hK K
       refine wpAnyH_take (i:=11) (oi:=_) (v:=_) rfl (by kernel_rfl) (by kernel_rfl) (by kernel_rfl) (fun _ _ _ h=>h) (Or.inl ⟨by rfl,by intro w hSw;(try dsimp only at hSw);go_simp;try (with_reducible rfl)⟩) (by assumption) ?_
       (try simp only [Act.put,List.setIfInBounds_toArray,List.set_cons_zero,List.set_cons_succ])
       refine wpAnyH_ready (rs:=[12]) (by kernel_rfl) (by simp) ?_
       refine AllReadyH.cons rfl (fun K hK=>?_) AllReadyH.nil
       go_simp
       refine hK.out _ _ ?_ (fun hHeld=>?_)
       ·(try dsimp only);(refine ⟨?_,?_,?_,?_,?_,?_,?_,?_⟩<;>(repeat (with_reducible first|exact ya0|exact ya1|exact ya2|exact ya3|exact ya4|exact ya5|exact yb0|exact yb1|refine cellB_dr ?_|refine cellB_al ?_|refine cellB_set nT ?_|refine cellB_set nY ?_))<;>done)
       clear hK K
       refine wpAnyH_ready (rs:=[13]) (by kernel_rfl) (by simp) ?_
       refine AllReadyH.cons rfl (fun K hK=>?_) AllReadyH.nil
       refine step_append_at _ rfl _ _ 52 52 rfl wl.heap.size 122 i0 (.agg #[.int .i64 0,.slice none 0 0]) 2 32 Tryz.underlying52 hi hz0 hz1 hz2 rfl _ j _ rfl o2 _ 1 [.int .i64 x3,.slice ca cn cc] rfl s2 1 (.inr (by omega)) Nat.le.refl (by unfold maxLen;omega) hs5 ?_;intro v9 w9 ho9 hg9 hat9;have hb9:Below wl.heap.size (w4.alloc (.cells #[.int .i64 x3,.slice ca cn cc] 122)) w9:=(Below.refl _ _).grown hg9 hs5 (fun k hk=>(ownsRow_lt o2 k hk).1);have hR9:=hR5.blk (hb9.block Rb hRl);obtain ⟨m6,n6⟩:=hR9 6 _ rfl;have ya0:=(hb9.cell (p:=⟨T,0,none⟩) hTl).trans (cellB_al ya0);have ya1:=(hb9.cell (p:=⟨T,1,none⟩) hTl).trans (cellB_al ya1);have ya2:=(hb9.cell (p:=⟨T,2,none⟩) hTl).trans (cellB_al ya2);have ya3:=(hb9.cell (p:=⟨T,3,none⟩) hTl).trans (cellB_al ya3);have ya4:=(hb9.cell (p:=⟨T,4,none⟩) hTl).trans (cellB_al ya4);have ya5:=(hb9.cell (p:=⟨T,5,none⟩) hTl).trans (cellB_al ya5);have hkY:=hg9.block Y (Nat.lt_of_lt_of_le lY hB5.size) (fun e=>by have h9:=HYL.out Y e.symm;omega);have yb0:=keep_cell (p:=⟨Y,0,none⟩) hkY (cellB_al yb0);have yb1:=keep_cell (p:=⟨Y,1,none⟩) hkY (cellB_al yb1)
       refine hK.out _ _ ?_ (fun hHeld=>?_)
       ·(try dsimp only);(refine ⟨?_,?_,?_,?_,?_,?_,?_,?_⟩<;>(repeat (with_reducible first|exact ya0|exact ya1|exact ya2|exact ya3|exact ya4|exact ya5|exact yb0|exact yb1|refine cellB_dr ?_|refine cellB_al ?_|refine cellB_set nT ?_|refine cellB_set nY ?_))<;>done)
       clear hK K
       obtain ⟨a9,c9,rfl⟩:∃ a c,v9=.slice a (j+1) c:=by
        rcases ho9.2 with ⟨h1,h2⟩|⟨g,cap,cur,h1,_⟩
        ·omega
        ·exact ⟨_,_,h1⟩
       refine wpAnyH_take (i:=14) (oi:=_) (v:=_) rfl (by kernel_rfl) (by kernel_rfl) (by kernel_rfl) (fun _ _ _ h=>h) (Or.inl ⟨by rfl,by intro w hSw;(try dsimp only at hSw);go_simp;try (with_reducible rfl)⟩) (by assumption) ?_
       (try simp only [Act.put,List.setIfInBounds_toArray,List.set_cons_zero,List.set_cons_succ])
       refine wpAnyH_ready (rs:=[15]) (by kernel_rfl) (by simp) ?_
       refine AllReadyH.cons rfl (fun K hK=>?_) AllReadyH.nil
       go_simp
       refine hK.out _ _ ?_ (fun hHeld=>?_)
       ·(try dsimp only);(refine ⟨?_,?_,?_,?_,?_,?_,?_,?_⟩<;>(repeat (with_reducible first|exact ya0|exact ya1|exact ya2|exact ya3|exact ya4|exact ya5|exact yb0|exact yb1|refine cellB_dr ?_|refine cellB_al ?_|refine cellB_set nT ?_|refine cellB_set nY ?_))<;>done)
       clear hK K
       refine wpAnyH_done (by kernel_rfl) ?_ _
       have hRc:Hid (Bn (w9.setCell ⟨Rb,6,none⟩ (.slice a9 (j+1) c9)) Rb [.int .i64 (i:Int),.int .i64 (k:Int),.string ev,.slice none 0 0,.int .i64 tt,.int .i64 sc,.slice a9 (j+1) c9]):=hR9.set (i:=6) (by simp) (.slice a9 (j+1) c9)
       have hOc:Hid ((w9.setCell ⟨Rb,6,none⟩ (.slice a9 (j+1) c9)).ownsRow wl.heap.size 122 2 (.slice a9 (j+1) c9) (j+1) (cs++[.int .i64 x3,.slice ca cn cc])):=ownsRow_keep ho9 (fun g hg=>Below.heap_setCell _ _ _ _ (fun e=>by have h9:=(ownsRow_lt ho9 g hg).1;have e2:g=Rb:=e;omega))
       have hFc:Hid (Fx Rb wl (w9.setCell ⟨Rb,6,none⟩ (.slice a9 (j+1) c9))):=((HFY.out.andD hB5 hly).andD hb9 Nat.le.refl).setX (i:=6) (.slice a9 (j+1) c9)
       clear hR5 hR9 m6 n6 ho9 o2 s2 hg9 hat9 hb9 hB3 hB4 hB5 hal4 b3 b4 hb3 hkY ya0 ya1 ya2 ya3 ya4 ya5 yb0 yb1 k6 k6a
       (try simp only [List.getElem_toArray,List.getElem_cons_succ,List.getElem_cons_zero,List.set_cons_succ,List.set_cons_zero,List.setIfInBounds_toArray])
       subst hTe
       go_wp2
       go_roundw
       case rel=>exact ⟨j+1,a9,c9,_,hlt,by go_num,hRc,hOc,hFc⟩
       case measure=>simp [RowKit.intOf];omega
      ·go_simp
       go_wp2_with (first|(go_at_call 25;(with_reducible refine (hno _ hbyd).mono ?_);rintro e w3 ⟨x3,rfl,b3⟩;have hB3:Below wy.heap.size wy w3:=Below.nxtd (Below.refl _ _) b3;have hb3:=hby.trans (hB3.mono hby.size);have ya0:=(hB3.cell (p:=⟨T,0,none⟩) lT).trans za0;have ya1:=(hB3.cell (p:=⟨T,1,none⟩) lT).trans za1;have ya2:=(hB3.cell (p:=⟨T,2,none⟩) lT).trans za2;have ya3:=(hB3.cell (p:=⟨T,3,none⟩) lT).trans za3;have ya4:=(hB3.cell (p:=⟨T,4,none⟩) lT).trans za4;have ya5:=(hB3.cell (p:=⟨T,5,none⟩) lT).trans za5;have yb0:=(hB3.cell (p:=⟨Y,0,none⟩) lY).trans zb0;have yb1:=(hB3.cell (p:=⟨Y,1,none⟩) lY).trans zb1;have k6:=(hB3.cell (p:=⟨Rb,6,none⟩) lR).trans q6)|(go_at_call 39;(with_reducible refine (hcd _ hb3).mono ?_);rintro e w4 ⟨ca,cn,cc,rfl,b4⟩;have hB4:Below wy.heap.size wy w4:=Below.nxt hB3 b4;have ya0:=(hB4.cell (p:=⟨T,0,none⟩) lT).trans za0;have ya1:=(hB4.cell (p:=⟨T,1,none⟩) lT).trans za1;have ya2:=(hB4.cell (p:=⟨T,2,none⟩) lT).trans za2;have ya3:=(hB4.cell (p:=⟨T,3,none⟩) lT).trans za3;have ya4:=(hB4.cell (p:=⟨T,4,none⟩) lT).trans za4;have ya5:=(hB4.cell (p:=⟨T,5,none⟩) lT).trans za5;have yb0:=(hB4.cell (p:=⟨Y,0,none⟩) lY).trans zb0;have yb1:=(hB4.cell (p:=⟨Y,1,none⟩) lY).trans zb1;have k6:=(hB4.cell (p:=⟨Rb,6,none⟩) lR).trans q6;have hal4:Below w4.heap.size w4 (w4.alloc (.cells #[.int .i64 x3,.slice ca cn cc] 122)):=(Below.refl _ _).alloc Nat.le.refl _;have hB5:Below wy.heap.size wy (w4.alloc (.cells #[.int .i64 x3,.slice ca cn cc] 122)):=hB4.trans (hal4.mono hB4.size);have k6a:=(hB5.cell (p:=⟨Rb,6,none⟩) lR).trans q6;have o2:=ownsRow_keep HOY.out (fun g hg=>hB5.block g (HYO.out g hg).2);have s2:=src_row (P:=Tryz.prog) (t:=52) (e:=122) Tryz.underlying52 w4 [.int .i64 x3,.slice ca cn cc] rfl (by simp [Value.oneCell']);have hs5:wl.heap.size<=(w4.alloc (.cells #[.int .i64 x3,.slice ca cn cc] 122)).heap.size:=Nat.le_trans hly hB5.size;have hR5:=hRy.on hB5)|fail)
       refine hK.out _ _ ?_ (fun hHeld=>?_)
       ·(try dsimp only);(refine ⟨?_,?_,?_,?_,?_,?_,?_,?_⟩<;>(repeat (with_reducible first|exact ya0|exact ya1|exact ya2|exact ya3|exact ya4|exact ya5|exact yb0|exact yb1|refine cellB_dr ?_|refine cellB_al ?_|refine cellB_set nT ?_|refine cellB_set nY ?_))<;>done)
       clear hK K
       refine wpAnyH_ready (rs:=[1,10]) (by kernel_rfl) (by simp) ?_
       refine AllReadyH.cons rfl (fun K hK=>?_) (AllReadyH.cons rfl (fun K hK=>?_) AllReadyH.nil)
       ·go_simp
        refine hK.out _ _ ?_ (fun hHeld=>?_)
        ·(try dsimp only);(refine ⟨?_,?_,?_,?_,?_,?_,?_,?_⟩<;>(repeat (with_reducible first|exact ya0|exact ya1|exact ya2|exact ya3|exact ya4|exact ya5|exact yb0|exact yb1|refine cellB_dr ?_|refine cellB_al ?_|refine cellB_set nT ?_|refine cellB_set nY ?_))<;>done)
        clear hK K
        refine wpAnyH_ready (rs:=[10]) (by kernel_rfl) (by simp) ?_
        refine AllReadyH.cons rfl (fun K hK=>?_) AllReadyH.nil
        go_simp
        go_wp2_with (first|(go_at_call 25;(with_reducible refine (hno _ hbyd).mono ?_);rintro e w3 ⟨x3,rfl,b3⟩;have hB3:Below wy.heap.size wy w3:=Below.nxtd (Below.refl _ _) b3;have hb3:=hby.trans (hB3.mono hby.size);have ya0:=(hB3.cell (p:=⟨T,0,none⟩) lT).trans za0;have ya1:=(hB3.cell (p:=⟨T,1,none⟩) lT).trans za1;have ya2:=(hB3.cell (p:=⟨T,2,none⟩) lT).trans za2;have ya3:=(hB3.cell (p:=⟨T,3,none⟩) lT).trans za3;have ya4:=(hB3.cell (p:=⟨T,4,none⟩) lT).trans za4;have ya5:=(hB3.cell (p:=⟨T,5,none⟩) lT).trans za5;have yb0:=(hB3.cell (p:=⟨Y,0,none⟩) lY).trans zb0;have yb1:=(hB3.cell (p:=⟨Y,1,none⟩) lY).trans zb1;have k6:=(hB3.cell (p:=⟨Rb,6,none⟩) lR).trans q6)|(go_at_call 39;(with_reducible refine (hcd _ hb3).mono ?_);rintro e w4 ⟨ca,cn,cc,rfl,b4⟩;have hB4:Below wy.heap.size wy w4:=Below.nxt hB3 b4;have ya0:=(hB4.cell (p:=⟨T,0,none⟩) lT).trans za0;have ya1:=(hB4.cell (p:=⟨T,1,none⟩) lT).trans za1;have ya2:=(hB4.cell (p:=⟨T,2,none⟩) lT).trans za2;have ya3:=(hB4.cell (p:=⟨T,3,none⟩) lT).trans za3;have ya4:=(hB4.cell (p:=⟨T,4,none⟩) lT).trans za4;have ya5:=(hB4.cell (p:=⟨T,5,none⟩) lT).trans za5;have yb0:=(hB4.cell (p:=⟨Y,0,none⟩) lY).trans zb0;have yb1:=(hB4.cell (p:=⟨Y,1,none⟩) lY).trans zb1;have k6:=(hB4.cell (p:=⟨Rb,6,none⟩) lR).trans q6;have hal4:Below w4.heap.size w4 (w4.alloc (.cells #[.int .i64 x3,.slice ca cn cc] 122)):=(Below.refl _ _).alloc Nat.le.refl _;have hB5:Below wy.heap.size wy (w4.alloc (.cells #[.int .i64 x3,.slice ca cn cc] 122)):=hB4.trans (hal4.mono hB4.size);have k6a:=(hB5.cell (p:=⟨Rb,6,none⟩) lR).trans q6;have o2:=ownsRow_keep HOY.out (fun g hg=>hB5.block g (HYO.out g hg).2);have s2:=src_row (P:=Tryz.prog) (t:=52) (e:=122) Tryz.underlying52 w4 [.int .i64 x3,.slice ca cn cc] rfl (by simp [Value.oneCell']);have hs5:wl.heap.size<=(w4.alloc (.cells #[.int .i64 x3,.slice ca cn cc] 122)).heap.size:=Nat.le_trans hly hB5.size;have hR5:=hRy.on hB5)|fail)
        refine hK.out _ _ ?_ (fun hHeld=>?_)
        ·(try dsimp only);(refine ⟨?_,?_,?_,?_,?_,?_,?_,?_⟩<;>(repeat (with_reducible first|exact ya0|exact ya1|exact ya2|exact ya3|exact ya4|exact ya5|exact yb0|exact yb1|refine cellB_dr ?_|refine cellB_al ?_|refine cellB_set nT ?_|refine cellB_set nY ?_))<;>done)
        clear hK K
        refine wpAnyH_take (i:=11) (oi:=_) (v:=_) rfl (by kernel_rfl) (by kernel_rfl) (by kernel_rfl) (fun _ _ _ h=>h) (Or.inl ⟨by rfl,by intro w hSw;(try dsimp only at hSw);go_simp;try (with_reducible rfl)⟩) (by assumption) ?_
        (try simp only [Act.put,List.setIfInBounds_toArray,List.set_cons_zero,List.set_cons_succ])
        refine wpAnyH_ready (rs:=[12]) (by kernel_rfl) (by simp) ?_
        refine AllReadyH.cons rfl (fun K hK=>?_) AllReadyH.nil
        go_simp
        refine hK.out _ _ ?_ (fun hHeld=>?_)
        ·(try dsimp only);(refine ⟨?_,?_,?_,?_,?_,?_,?_,?_⟩<;>(repeat (with_reducible first|exact ya0|exact ya1|exact ya2|exact ya3|exact ya4|exact ya5|exact yb0|exact yb1|refine cellB_dr ?_|refine cellB_al ?_|refine cellB_set nT ?_|refine cellB_set nY ?_))<;>done)
        clear hK K
        refine wpAnyH_ready (rs:=[13]) (by kernel_rfl) (by simp) ?_
        refine AllReadyH.cons rfl (fun K hK=>?_) AllReadyH.nil
        refine step_append_at _ rfl _ _ 52 52 rfl wl.heap.size 122 i0 (.agg #[.int .i64 0,.slice none 0 0]) 2 32 Tryz.underlying52 hi hz0 hz1 hz2 rfl _ j _ rfl o2 _ 1 [.int .i64 x3,.slice ca cn cc] rfl s2 1 (.inr (by omega)) Nat.le.refl (by unfold maxLen;omega) hs5 ?_;intro v9 w9 ho9 hg9 hat9;have hb9:Below wl.heap.size (w4.alloc (.cells #[.int .i64 x3,.slice ca cn cc] 122)) w9:=(Below.refl _ _).grown hg9 hs5 (fun k hk=>(ownsRow_lt o2 k hk).1);have hR9:=hR5.blk (hb9.block Rb hRl);obtain ⟨m6,n6⟩:=hR9 6 _ rfl;have ya0:=(hb9.cell (p:=⟨T,0,none⟩) hTl).trans (cellB_al ya0);have ya1:=(hb9.cell (p:=⟨T,1,none⟩) hTl).trans (cellB_al ya1);have ya2:=(hb9.cell (p:=⟨T,2,none⟩) hTl).trans (cellB_al ya2);have ya3:=(hb9.cell (p:=⟨T,3,none⟩) hTl).trans (cellB_al ya3);have ya4:=(hb9.cell (p:=⟨T,4,none⟩) hTl).trans (cellB_al ya4);have ya5:=(hb9.cell (p:=⟨T,5,none⟩) hTl).trans (cellB_al ya5);have hkY:=hg9.block Y (Nat.lt_of_lt_of_le lY hB5.size) (fun e=>by have h9:=HYL.out Y e.symm;omega);have yb0:=keep_cell (p:=⟨Y,0,none⟩) hkY (cellB_al yb0);have yb1:=keep_cell (p:=⟨Y,1,none⟩) hkY (cellB_al yb1)
        refine hK.out _ _ ?_ (fun hHeld=>?_)
        ·(try dsimp only);(refine ⟨?_,?_,?_,?_,?_,?_,?_,?_⟩<;>(repeat (with_reducible first|exact ya0|exact ya1|exact ya2|exact ya3|exact ya4|exact ya5|exact yb0|exact yb1|refine cellB_dr ?_|refine cellB_al ?_|refine cellB_set nT ?_|refine cellB_set nY ?_))<;>done)
        clear hK K
        obtain ⟨a9,c9,rfl⟩:∃ a c,v9=.slice a (j+1) c:=by
         rcases ho9.2 with ⟨h1,h2⟩|⟨g,cap,cur,h1,_⟩
         ·omega
         ·exact ⟨_,_,h1⟩
        refine wpAnyH_take (i:=14) (oi:=_) (v:=_) rfl (by kernel_rfl) (by kernel_rfl) (by kernel_rfl) (fun _ _ _ h=>h) (Or.inl ⟨by rfl,by intro w hSw;(try dsimp only at hSw);go_simp;try (with_reducible rfl)⟩) (by assumption) ?_
        (try simp only [Act.put,List.setIfInBounds_toArray,List.set_cons_zero,List.set_cons_succ])
        refine wpAnyH_ready (rs:=[15]) (by kernel_rfl) (by simp) ?_
        refine AllReadyH.cons rfl (fun K hK=>?_) AllReadyH.nil
        go_simp
        refine hK.out _ _ ?_ (fun hHeld=>?_)
        ·(try dsimp only);(refine ⟨?_,?_,?_,?_,?_,?_,?_,?_⟩<;>(repeat (with_reducible first|exact ya0|exact ya1|exact ya2|exact ya3|exact ya4|exact ya5|exact yb0|exact yb1|refine cellB_dr ?_|refine cellB_al ?_|refine cellB_set nT ?_|refine cellB_set nY ?_))<;>done)
        clear hK K
        refine wpAnyH_done (by kernel_rfl) ?_ _
        have hRc:Hid (Bn (w9.setCell ⟨Rb,6,none⟩ (.slice a9 (j+1) c9)) Rb [.int .i64 (i:Int),.int .i64 (k:Int),.string ev,.slice none 0 0,.int .i64 tt,.int .i64 sc,.slice a9 (j+1) c9]):=hR9.set (i:=6) (by simp) (.slice a9 (j+1) c9)
        have hOc:Hid ((w9.setCell ⟨Rb,6,none⟩ (.slice a9 (j+1) c9)).ownsRow wl.heap.size 122 2 (.slice a9 (j+1) c9) (j+1) (cs++[.int .i64 x3,.slice ca cn cc])):=ownsRow_keep ho9 (fun g hg=>Below.heap_setCell _ _ _ _ (fun e=>by have h9:=(ownsRow_lt ho9 g hg).1;have e2:g=Rb:=e;omega))
        have hFc:Hid (Fx Rb wl (w9.setCell ⟨Rb,6,none⟩ (.slice a9 (j+1) c9))):=((HFY.out.andD hB5 hly).andD hb9 Nat.le.refl).setX (i:=6) (.slice a9 (j+1) c9)
        clear hR5 hR9 m6 n6 ho9 o2 s2 hg9 hat9 hb9 hB3 hB4 hB5 hal4 b3 b4 hb3 hkY ya0 ya1 ya2 ya3 ya4 ya5 yb0 yb1 k6 k6a
        (try simp only [List.getElem_toArray,List.getElem_cons_succ,List.getElem_cons_zero,List.set_cons_succ,List.set_cons_zero,List.setIfInBounds_toArray])
        subst hTe
        go_wp2
        go_roundw
        case rel=>exact ⟨j+1,a9,c9,_,hlt,by go_num,hRc,hOc,hFc⟩
        case measure=>simp [RowKit.intOf];omega
       ·go_simp
        go_wp2_with (first|(go_at_call 25;(with_reducible refine (hno _ hbyd).mono ?_);rintro e w3 ⟨x3,rfl,b3⟩;have hB3:Below wy.heap.size wy w3:=Below.nxtd (Below.refl _ _) b3;have hb3:=hby.trans (hB3.mono hby.size);have ya0:=(hB3.cell (p:=⟨T,0,none⟩) lT).trans za0;have ya1:=(hB3.cell (p:=⟨T,1,none⟩) lT).trans za1;have ya2:=(hB3.cell (p:=⟨T,2,none⟩) lT).trans za2;have ya3:=(hB3.cell (p:=⟨T,3,none⟩) lT).trans za3;have ya4:=(hB3.cell (p:=⟨T,4,none⟩) lT).trans za4;have ya5:=(hB3.cell (p:=⟨T,5,none⟩) lT).trans za5;have yb0:=(hB3.cell (p:=⟨Y,0,none⟩) lY).trans zb0;have yb1:=(hB3.cell (p:=⟨Y,1,none⟩) lY).trans zb1;have k6:=(hB3.cell (p:=⟨Rb,6,none⟩) lR).trans q6)|(go_at_call 39;(with_reducible refine (hcd _ hb3).mono ?_);rintro e w4 ⟨ca,cn,cc,rfl,b4⟩;have hB4:Below wy.heap.size wy w4:=Below.nxt hB3 b4;have ya0:=(hB4.cell (p:=⟨T,0,none⟩) lT).trans za0;have ya1:=(hB4.cell (p:=⟨T,1,none⟩) lT).trans za1;have ya2:=(hB4.cell (p:=⟨T,2,none⟩) lT).trans za2;have ya3:=(hB4.cell (p:=⟨T,3,none⟩) lT).trans za3;have ya4:=(hB4.cell (p:=⟨T,4,none⟩) lT).trans za4;have ya5:=(hB4.cell (p:=⟨T,5,none⟩) lT).trans za5;have yb0:=(hB4.cell (p:=⟨Y,0,none⟩) lY).trans zb0;have yb1:=(hB4.cell (p:=⟨Y,1,none⟩) lY).trans zb1;have k6:=(hB4.cell (p:=⟨Rb,6,none⟩) lR).trans q6;have hal4:Below w4.heap.size w4 (w4.alloc (.cells #[.int .i64 x3,.slice ca cn cc] 122)):=(Below.refl _ _).alloc Nat.le.refl _;have hB5:Below wy.heap.size wy (w4.alloc (.cells #[.int .i64 x3,.slice ca cn cc] 122)):=hB4.trans (hal4.mono hB4.size);have k6a:=(hB5.cell (p:=⟨Rb,6,none⟩) lR).trans q6;have o2:=ownsRow_keep HOY.out (fun g hg=>hB5.block g (HYO.out g hg).2);have s2:=src_row (P:=Tryz.prog) (t:=52) (e:=122) Tryz.underlying52 w4 [.int .i64 x3,.slice ca cn cc] rfl (by simp [Value.oneCell']);have hs5:wl.heap.size<=(w4.alloc (.cells #[.int .i64 x3,.slice ca cn cc] 122)).heap.size:=Nat.le_trans hly hB5.size;have hR5:=hRy.on hB5)|fail)
        refine hK.out _ _ ?_ (fun hHeld=>?_)
        ·(try dsimp only);(refine ⟨?_,?_,?_,?_,?_,?_,?_,?_⟩<;>(repeat (with_reducible first|exact ya0|exact ya1|exact ya2|exact ya3|exact ya4|exact ya5|exact yb0|exact yb1|refine cellB_dr ?_|refine cellB_al ?_|refine cellB_set nT ?_|refine cellB_set nY ?_))<;>done)
        clear hK K
        refine wpAnyH_take (i:=11) (oi:=_) (v:=_) rfl (by kernel_rfl) (by kernel_rfl) (by kernel_rfl) (fun _ _ _ h=>h) (Or.inl ⟨by rfl,by intro w hSw;(try dsimp only at hSw);go_simp;try (with_reducible rfl)⟩) (by assumption) ?_
        (try simp only [Act.put,List.setIfInBounds_toArray,List.set_cons_zero,List.set_cons_succ])
        refine wpAnyH_ready (rs:=[1,12]) (by kernel_rfl) (by simp) ?_
        refine AllReadyH.cons rfl (fun K hK=>?_) (AllReadyH.cons rfl (fun K hK=>?_) AllReadyH.nil)
        ·go_simp
         refine hK.out _ _ ?_ (fun hHeld=>?_)
         ·(try dsimp only);(refine ⟨?_,?_,?_,?_,?_,?_,?_,?_⟩<;>(repeat (with_reducible first|exact ya0|exact ya1|exact ya2|exact ya3|exact ya4|exact ya5|exact yb0|exact yb1|refine cellB_dr ?_|refine cellB_al ?_|refine cellB_set nT ?_|refine cellB_set nY ?_))<;>done)
         clear hK K
         refine wpAnyH_ready (rs:=[12]) (by kernel_rfl) (by simp) ?_
         refine AllReadyH.cons rfl (fun K hK=>?_) AllReadyH.nil
         go_simp
         refine hK.out _ _ ?_ (fun hHeld=>?_)
         ·(try dsimp only);(refine ⟨?_,?_,?_,?_,?_,?_,?_,?_⟩<;>(repeat (with_reducible first|exact ya0|exact ya1|exact ya2|exact ya3|exact ya4|exact ya5|exact yb0|exact yb1|refine cellB_dr ?_|refine cellB_al ?_|refine cellB_set nT ?_|refine cellB_set nY ?_))<;>done)
         clear hK K
         refine wpAnyH_ready (rs:=[13]) (by kernel_rfl) (by simp) ?_
         refine AllReadyH.cons rfl (fun K hK=>?_) AllReadyH.nil
         refine step_append_at _ rfl _ _ 52 52 rfl wl.heap.size 122 i0 (.agg #[.int .i64 0,.slice none 0 0]) 2 32 Tryz.underlying52 hi hz0 hz1 hz2 rfl _ j _ rfl o2 _ 1 [.int .i64 x3,.slice ca cn cc] rfl s2 1 (.inr (by omega)) Nat.le.refl (by unfold maxLen;omega) hs5 ?_;intro v9 w9 ho9 hg9 hat9;have hb9:Below wl.heap.size (w4.alloc (.cells #[.int .i64 x3,.slice ca cn cc] 122)) w9:=(Below.refl _ _).grown hg9 hs5 (fun k hk=>(ownsRow_lt o2 k hk).1);have hR9:=hR5.blk (hb9.block Rb hRl);obtain ⟨m6,n6⟩:=hR9 6 _ rfl;have ya0:=(hb9.cell (p:=⟨T,0,none⟩) hTl).trans (cellB_al ya0);have ya1:=(hb9.cell (p:=⟨T,1,none⟩) hTl).trans (cellB_al ya1);have ya2:=(hb9.cell (p:=⟨T,2,none⟩) hTl).trans (cellB_al ya2);have ya3:=(hb9.cell (p:=⟨T,3,none⟩) hTl).trans (cellB_al ya3);have ya4:=(hb9.cell (p:=⟨T,4,none⟩) hTl).trans (cellB_al ya4);have ya5:=(hb9.cell (p:=⟨T,5,none⟩) hTl).trans (cellB_al ya5);have hkY:=hg9.block Y (Nat.lt_of_lt_of_le lY hB5.size) (fun e=>by have h9:=HYL.out Y e.symm;omega);have yb0:=keep_cell (p:=⟨Y,0,none⟩) hkY (cellB_al yb0);have yb1:=keep_cell (p:=⟨Y,1,none⟩) hkY (cellB_al yb1)
         refine hK.out _ _ ?_ (fun hHeld=>?_)
         ·(try dsimp only);(refine ⟨?_,?_,?_,?_,?_,?_,?_,?_⟩<;>(repeat (with_reducible first|exact ya0|exact ya1|exact ya2|exact ya3|exact ya4|exact ya5|exact yb0|exact yb1|refine cellB_dr ?_|refine cellB_al ?_|refine cellB_set nT ?_|refine cellB_set nY ?_))<;>done)
         clear hK K
         obtain ⟨a9,c9,rfl⟩:∃ a c,v9=.slice a (j+1) c:=by
          rcases ho9.2 with ⟨h1,h2⟩|⟨g,cap,cur,h1,_⟩
          ·omega
          ·exact ⟨_,_,h1⟩
         refine wpAnyH_take (i:=14) (oi:=_) (v:=_) rfl (by kernel_rfl) (by kernel_rfl) (by kernel_rfl) (fun _ _ _ h=>h) (Or.inl ⟨by rfl,by intro w hSw;(try dsimp only at hSw);go_simp;try (with_reducible rfl)⟩) (by assumption) ?_
         (try simp only [Act.put,List.setIfInBounds_toArray,List.set_cons_zero,List.set_cons_succ])
         refine wpAnyH_ready (rs:=[15]) (by kernel_rfl) (by simp) ?_
         refine AllReadyH.cons rfl (fun K hK=>?_) AllReadyH.nil
         go_simp
         refine hK.out _ _ ?_ (fun hHeld=>?_)
         ·(try dsimp only);(refine ⟨?_,?_,?_,?_,?_,?_,?_,?_⟩<;>(repeat (with_reducible first|exact ya0|exact ya1|exact ya2|exact ya3|exact ya4|exact ya5|exact yb0|exact yb1|refine cellB_dr ?_|refine cellB_al ?_|refine cellB_set nT ?_|refine cellB_set nY ?_))<;>done)
         clear hK K
         refine wpAnyH_done (by kernel_rfl) ?_ _
         have hRc:Hid (Bn (w9.setCell ⟨Rb,6,none⟩ (.slice a9 (j+1) c9)) Rb [.int .i64 (i:Int),.int .i64 (k:Int),.string ev,.slice none 0 0,.int .i64 tt,.int .i64 sc,.slice a9 (j+1) c9]):=hR9.set (i:=6) (by simp) (.slice a9 (j+1) c9)
         have hOc:Hid ((w9.setCell ⟨Rb,6,none⟩ (.slice a9 (j+1) c9)).ownsRow wl.heap.size 122 2 (.slice a9 (j+1) c9) (j+1) (cs++[.int .i64 x3,.slice ca cn cc])):=ownsRow_keep ho9 (fun g hg=>Below.heap_setCell _ _ _ _ (fun e=>by have h9:=(ownsRow_lt ho9 g hg).1;have e2:g=Rb:=e;omega))
         have hFc:Hid (Fx Rb wl (w9.setCell ⟨Rb,6,none⟩ (.slice a9 (j+1) c9))):=((HFY.out.andD hB5 hly).andD hb9 Nat.le.refl).setX (i:=6) (.slice a9 (j+1) c9)
         clear hR5 hR9 m6 n6 ho9 o2 s2 hg9 hat9 hb9 hB3 hB4 hB5 hal4 b3 b4 hb3 hkY ya0 ya1 ya2 ya3 ya4 ya5 yb0 yb1 k6 k6a
         (try simp only [List.getElem_toArray,List.getElem_cons_succ,List.getElem_cons_zero,List.set_cons_succ,List.set_cons_zero,List.setIfInBounds_toArray])
         subst hTe
         go_wp2
         go_roundw
         case rel=>exact ⟨j+1,a9,c9,_,hlt,by go_num,hRc,hOc,hFc⟩
         case measure=>simp [RowKit.intOf];omega
        ·go_simp
         refine hK.out _ _ ?_ (fun hHeld=>?_)
         ·(try dsimp only);(refine ⟨?_,?_,?_,?_,?_,?_,?_,?_⟩<;>(repeat (with_reducible first|exact ya0|exact ya1|exact ya2|exact ya3|exact ya4|exact ya5|exact yb0|exact yb1|refine cellB_dr ?_|refine cellB_al ?_|refine cellB_set nT ?_|refine cellB_set nY ?_))<;>done)
         clear hK K
         refine wpAnyH_ready (rs:=[1]) (by kernel_rfl) (by simp) ?_
         refine AllReadyH.cons rfl (fun K hK=>?_) AllReadyH.nil
         go_simp
         refine hK.out _ _ ?_ (fun hHeld=>?_)
         ·(try dsimp only);(refine ⟨?_,?_,?_,?_,?_,?_,?_,?_⟩<;>(repeat (with_reducible first|exact ya0|exact ya1|exact ya2|exact ya3|exact ya4|exact ya5|exact yb0|exact yb1|refine cellB_dr ?_|refine cellB_al ?_|refine cellB_set nT ?_|refine cellB_set nY ?_))<;>done)
         clear hK K
         refine wpAnyH_ready (rs:=[13]) (by kernel_rfl) (by simp) ?_
         refine AllReadyH.cons rfl (fun K hK=>?_) AllReadyH.nil
         refine step_append_at _ rfl _ _ 52 52 rfl wl.heap.size 122 i0 (.agg #[.int .i64 0,.slice none 0 0]) 2 32 Tryz.underlying52 hi hz0 hz1 hz2 rfl _ j _ rfl o2 _ 1 [.int .i64 x3,.slice ca cn cc] rfl s2 1 (.inr (by omega)) Nat.le.refl (by unfold maxLen;omega) hs5 ?_;intro v9 w9 ho9 hg9 hat9;have hb9:Below wl.heap.size (w4.alloc (.cells #[.int .i64 x3,.slice ca cn cc] 122)) w9:=(Below.refl _ _).grown hg9 hs5 (fun k hk=>(ownsRow_lt o2 k hk).1);have hR9:=hR5.blk (hb9.block Rb hRl);obtain ⟨m6,n6⟩:=hR9 6 _ rfl;have ya0:=(hb9.cell (p:=⟨T,0,none⟩) hTl).trans (cellB_al ya0);have ya1:=(hb9.cell (p:=⟨T,1,none⟩) hTl).trans (cellB_al ya1);have ya2:=(hb9.cell (p:=⟨T,2,none⟩) hTl).trans (cellB_al ya2);have ya3:=(hb9.cell (p:=⟨T,3,none⟩) hTl).trans (cellB_al ya3);have ya4:=(hb9.cell (p:=⟨T,4,none⟩) hTl).trans (cellB_al ya4);have ya5:=(hb9.cell (p:=⟨T,5,none⟩) hTl).trans (cellB_al ya5);have hkY:=hg9.block Y (Nat.lt_of_lt_of_le lY hB5.size) (fun e=>by have h9:=HYL.out Y e.symm;omega);have yb0:=keep_cell (p:=⟨Y,0,none⟩) hkY (cellB_al yb0);have yb1:=keep_cell (p:=⟨Y,1,none⟩) hkY (cellB_al yb1)
         refine hK.out _ _ ?_ (fun hHeld=>?_)
         ·(try dsimp only);(refine ⟨?_,?_,?_,?_,?_,?_,?_,?_⟩<;>(repeat (with_reducible first|exact ya0|exact ya1|exact ya2|exact ya3|exact ya4|exact ya5|exact yb0|exact yb1|refine cellB_dr ?_|refine cellB_al ?_|refine cellB_set nT ?_|refine cellB_set nY ?_))<;>done)
         clear hK K
         obtain ⟨a9,c9,rfl⟩:∃ a c,v9=.slice a (j+1) c:=by
          rcases ho9.2 with ⟨h1,h2⟩|⟨g,cap,cur,h1,_⟩
          ·omega
          ·exact ⟨_,_,h1⟩
         refine wpAnyH_take (i:=14) (oi:=_) (v:=_) rfl (by kernel_rfl) (by kernel_rfl) (by kernel_rfl) (fun _ _ _ h=>h) (Or.inl ⟨by rfl,by intro w hSw;(try dsimp only at hSw);go_simp;try (with_reducible rfl)⟩) (by assumption) ?_
         (try simp only [Act.put,List.setIfInBounds_toArray,List.set_cons_zero,List.set_cons_succ])
         refine wpAnyH_ready (rs:=[15]) (by kernel_rfl) (by simp) ?_
         refine AllReadyH.cons rfl (fun K hK=>?_) AllReadyH.nil
         go_simp
         refine hK.out _ _ ?_ (fun hHeld=>?_)
         ·(try dsimp only);(refine ⟨?_,?_,?_,?_,?_,?_,?_,?_⟩<;>(repeat (with_reducible first|exact ya0|exact ya1|exact ya2|exact ya3|exact ya4|exact ya5|exact yb0|exact yb1|refine cellB_dr ?_|refine cellB_al ?_|refine cellB_set nT ?_|refine cellB_set nY ?_))<;>done)
         clear hK K
         refine wpAnyH_done (by kernel_rfl) ?_ _
         have hRc:Hid (Bn (w9.setCell ⟨Rb,6,none⟩ (.slice a9 (j+1) c9)) Rb [.int .i64 (i:Int),.int .i64 (k:Int),.string ev,.slice none 0 0,.int .i64 tt,.int .i64 sc,.slice a9 (j+1) c9]):=hR9.set (i:=6) (by simp) (.slice a9 (j+1) c9)
         have hOc:Hid ((w9.setCell ⟨Rb,6,none⟩ (.slice a9 (j+1) c9)).ownsRow wl.heap.size 122 2 (.slice a9 (j+1) c9) (j+1) (cs++[.int .i64 x3,.slice ca cn cc])):=ownsRow_keep ho9 (fun g hg=>Below.heap_setCell _ _ _ _ (fun e=>by have h9:=(ownsRow_lt ho9 g hg).1;have e2:g=Rb:=e;omega))
         have hFc:Hid (Fx Rb wl (w9.setCell ⟨Rb,6,none⟩ (.slice a9 (j+1) c9))):=((HFY.out.andD hB5 hly).andD hb9 Nat.le.refl).setX (i:=6) (.slice a9 (j+1) c9)
         clear hR5 hR9 m6 n6 ho9 o2 s2 hg9 hat9 hb9 hB3 hB4 hB5 hal4 b3 b4 hb3 hkY ya0 ya1 ya2 ya3 ya4 ya5 yb0 yb1 k6 k6a
         (try simp only [List.getElem_toArray,List.getElem_cons_succ,List.getElem_cons_zero,List.set_cons_succ,List.set_cons_zero,List.setIfInBounds_toArray])
         subst hTe
         go_wp2
         go_roundw
         case rel=>exact ⟨j+1,a9,c9,_,hlt,by go_num,hRc,hOc,hFc⟩
         case measure=>simp [RowKit.intOf];omega
     ·rw [hs0,hxy] at hc
      have hcd:=fun w1 (bw:Below w.heap.size w w1)=>hCd q.2 w1 bw hk1 hk2
      simp only [hxy] at hcd
      have hno:=hNo s0
      have C0:=(hbr.cell (p:=⟨b,off+j*2+0,none⟩) hblk).trans (hc 0 _ rfl)
      have C1:=(hbr.cell (p:=⟨b,off+j*2+1,none⟩) hblk).trans (hc 1 _ rfl)
      rw [Nat.add_zero] at C0
      have i1:(j:Int) < (ns:Int):=by omega
      have i2:(0:Int)<=(j:Int):=by omega
      have hal7:Below wr.heap.size wr (wr.alloc (.cells #[.string s0,.iface u y] 120)):=(Below.refl _ _).alloc Nat.le.refl _
      have hY:=Bn.new wr [.string s0,.iface u y] 120 _ rfl
      clear hc hq hs0 hxy hk1 hk2 cb3 hOl
      go_upto_region 8 with fail
      clear C0 C1
      have hby:=hbr.trans (hal7.mono hbr.size)
      have hRy:=HRR.out.on hal7
      have HTY:=(HTL.out.fx HFX.out (by omega)).on hal7
      have HFY:Hid (Fx Rb wl (wr.alloc (.cells #[.string s0,.iface u y] 120))):=HFX.out.andD hal7 hFs
      have HOY:Hid ((wr.alloc (.cells #[.string s0,.iface u y] 120)).ownsRow wl.heap.size 122 2 (.slice ta j tc) j cs):=ownsRow_keep HOW.out (fun g hg=>hal7.block g (ownsRow_lt HOW.out g hg).2)
      have HYL:Hid (∀ g,(Value.slice ta j tc).ownBlock=some g->g < wr.heap.size):=fun g hg=>(ownsRow_lt HOW.out g hg).2
      obtain ⟨Y,hYe⟩:∃ Y,wr.heap.size=Y:=⟨_,rfl⟩
      rw [hYe] at hY hFs HYL ⊢
      generalize (wr.alloc (.cells #[.string s0,.iface u y] 120))=wy at *
      clear hYe hal7 HRR HOW HFX hbr
      have hly:wl.heap.size<=wy.heap.size:=HFY.out.size
      have hbyd:Below w.heap.size w wy.drew:=hby.drew
      have HYO:=hidOf (fun g (hg:(Value.slice ta j tc).ownBlock=some g)=>ownsRow_lt HOY.out g hg)
      obtain ⟨T,hTe⟩:∃ T,w.heap.size=T:=⟨_,rfl⟩
      rw [hTe] at HTY hTl ⊢
      have hTR:T < Rb:=by omega
      have hTY:T < Y:=by omega
      have za0:=(HTY 0 _ rfl).1
      have za1:=(HTY 1 _ rfl).1
      have za2:=(HTY 2 _ rfl).1
      have za3:=(HTY 3 _ rfl).1
      have za4:=(HTY 4 _ rfl).1
      have za5:=(HTY 5 _ rfl).1
      have ya0:=za0
      have ya1:=za1
      have ya2:=za2
      have ya3:=za3
      have ya4:=za4
      have ya5:=za5
      have zb0:=(hY 0 _ rfl).1
      have zb1:=(hY 1 _ rfl).1
      have yb0:=zb0
      have yb1:=zb1
      have q6:=(hRy 6 _ rfl).1
      have k6:=q6
      have lT:=HTY.lt
      have lY:=hY.lt
      have lR:=hRy.lt
      have nT:Rb≠T:=by omega
      have nY:Rb≠Y:=by omega
      refine wp_region_held_drew (S:=(fun w'=>w'.cell? ⟨T,0,none⟩=some (.string t0)/\w'.cell? ⟨T,1,none⟩=some (.int .i64 t1)/\w'.cell? ⟨T,2,none⟩=some (.slice t2 t3 t4)/\w'.cell? ⟨T,3,none⟩=some (.slice t5 t6 t7)/\w'.cell? ⟨T,4,none⟩=some (.slice t8 t9 t10)/\w'.cell? ⟨T,5,none⟩=some (.slice t11 t12 t13)/\w'.cell? ⟨Y,0,none⟩=some (.string s0)/\w'.cell? ⟨Y,1,none⟩=some (.iface u y))) (by kernel_rfl) ?_ (fun hHeld=>?_)
      ·(try dsimp only);(refine ⟨?_,?_,?_,?_,?_,?_,?_,?_⟩<;>(repeat (with_reducible first|exact ya0|exact ya1|exact ya2|exact ya3|exact ya4|exact ya5|exact yb0|exact yb1|refine cellB_dr ?_|refine cellB_al ?_|refine cellB_set nT ?_|refine cellB_set nY ?_))<;>done)
      refine wpAnyH_take (i:=0) (oi:=_) (v:=_) rfl (by kernel_rfl) (by kernel_rfl) (by kernel_rfl) (fun _ _ _ h=>h) (Or.inl ⟨by rfl,by intro w hSw;(try dsimp only at hSw);go_simp;try (with_reducible rfl)⟩) (by assumption) ?_
      (try simp only [Act.put,List.setIfInBounds_toArray,List.set_cons_zero,List.set_cons_succ])
      refine wpAnyH_take (i:=2) (oi:=_) (v:=_) rfl (by kernel_rfl) (by kernel_rfl) (by kernel_rfl) (fun _ _ _ h=>h) (Or.inl ⟨by rfl,by intro w hSw;(try dsimp only at hSw);go_simp;try (with_reducible rfl)⟩) (by assumption) ?_
      (try simp only [Act.put,List.setIfInBounds_toArray,List.set_cons_zero,List.set_cons_succ])
      refine wpAnyH_take (i:=3) (oi:=_) (v:=_) rfl (by kernel_rfl) (by kernel_rfl) (by kernel_rfl) (fun _ _ _ h=>h) (Or.inl ⟨by rfl,by intro w hSw;(try dsimp only at hSw);go_simp;try (with_reducible rfl)⟩) (by assumption) ?_
      (try simp only [Act.put,List.setIfInBounds_toArray,List.set_cons_zero,List.set_cons_succ])
      refine wpAnyH_take (i:=4) (oi:=_) (v:=_) rfl (by kernel_rfl) (by kernel_rfl) (by kernel_rfl) (fun _ _ _ h=>h) (Or.inl ⟨by rfl,by intro w hSw;(try dsimp only at hSw);go_simp;try (with_reducible rfl)⟩) (by assumption) ?_
      (try simp only [Act.put,List.setIfInBounds_toArray,List.set_cons_zero,List.set_cons_succ])
      refine wpAnyH_take (i:=5) (oi:=_) (v:=_) rfl (by kernel_rfl) (by kernel_rfl) (by kernel_rfl) (fun _ _ _ h=>h) (Or.inl ⟨by rfl,by intro w hSw;(try dsimp only at hSw);go_simp;try (with_reducible rfl)⟩) (by assumption) ?_
      (try simp only [Act.put,List.setIfInBounds_toArray,List.set_cons_zero,List.set_cons_succ])
      refine wpAnyH_take (i:=7) (oi:=_) (v:=_) rfl (by kernel_rfl) (by kernel_rfl) (by kernel_rfl) (fun _ _ _ h=>h) (Or.inl ⟨by rfl,by intro w hSw;(try dsimp only at hSw);go_simp;try (with_reducible rfl)⟩) (by assumption) ?_
      (try simp only [Act.put,List.setIfInBounds_toArray,List.set_cons_zero,List.set_cons_succ])
      refine wpAnyH_take (i:=8) (oi:=_) (v:=_) rfl (by kernel_rfl) (by kernel_rfl) (by kernel_rfl) (fun _ _ _ h=>h) (Or.inl ⟨by rfl,by intro w hSw;(try dsimp only at hSw);go_simp;try (with_reducible rfl)⟩) (by assumption) ?_
      (try simp only [Act.put,List.setIfInBounds_toArray,List.set_cons_zero,List.set_cons_succ])
      refine wpAnyH_take (i:=9) (oi:=_) (v:=_) rfl (by kernel_rfl) (by kernel_rfl) (by kernel_rfl) (fun _ _ _ h=>h) (Or.inl ⟨by rfl,by intro w hSw;(try dsimp only at hSw);go_simp;try (with_reducible rfl)⟩) (by assumption) ?_
      (try simp only [Act.put,List.setIfInBounds_toArray,List.set_cons_zero,List.set_cons_succ])
      refine wpAnyH_ready (rs:=[1,6]) (by kernel_rfl) (by simp) ?_
      refine AllReadyH.cons rfl (fun K hK=>?_) (AllReadyH.cons rfl (fun K hK=>?_) AllReadyH.nil)
      ·go_simp
       refine hK.out _ _ ?_ (fun hHeld=>?_)
       ·(try dsimp only);(refine ⟨?_,?_,?_,?_,?_,?_,?_,?_⟩<;>(repeat (with_reducible first|exact ya0|exact ya1|exact ya2|exact ya3|exact ya4|exact ya5|exact yb0|exact yb1|refine cellB_dr ?_|refine cellB_al ?_|refine cellB_set nT ?_|refine cellB_set nY ?_))<;>done)
       clear hK K
       refine wpAnyH_ready (rs:=[6]) (by kernel_rfl) (by simp) ?_
       refine AllReadyH.cons rfl (fun K hK=>?_) AllReadyH.nil
       go_simp
       go_wp2_with (first|(go_at_call 25;(with_reducible refine (hno _ hbyd).mono ?_);rintro e w3 ⟨x3,rfl,b3⟩;have hB3:Below wy.heap.size wy w3:=Below.nxtd (Below.refl _ _) b3;have hb3:=hby.trans (hB3.mono hby.size);have ya0:=(hB3.cell (p:=⟨T,0,none⟩) lT).trans za0;have ya1:=(hB3.cell (p:=⟨T,1,none⟩) lT).trans za1;have ya2:=(hB3.cell (p:=⟨T,2,none⟩) lT).trans za2;have ya3:=(hB3.cell (p:=⟨T,3,none⟩) lT).trans za3;have ya4:=(hB3.cell (p:=⟨T,4,none⟩) lT).trans za4;have ya5:=(hB3.cell (p:=⟨T,5,none⟩) lT).trans za5;have yb0:=(hB3.cell (p:=⟨Y,0,none⟩) lY).trans zb0;have yb1:=(hB3.cell (p:=⟨Y,1,none⟩) lY).trans zb1;have k6:=(hB3.cell (p:=⟨Rb,6,none⟩) lR).trans q6)|(go_at_call 39;(with_reducible refine (hcd _ hb3).mono ?_);rintro e w4 ⟨ca,cn,cc,rfl,b4⟩;have hB4:Below wy.heap.size wy w4:=Below.nxt hB3 b4;have ya0:=(hB4.cell (p:=⟨T,0,none⟩) lT).trans za0;have ya1:=(hB4.cell (p:=⟨T,1,none⟩) lT).trans za1;have ya2:=(hB4.cell (p:=⟨T,2,none⟩) lT).trans za2;have ya3:=(hB4.cell (p:=⟨T,3,none⟩) lT).trans za3;have ya4:=(hB4.cell (p:=⟨T,4,none⟩) lT).trans za4;have ya5:=(hB4.cell (p:=⟨T,5,none⟩) lT).trans za5;have yb0:=(hB4.cell (p:=⟨Y,0,none⟩) lY).trans zb0;have yb1:=(hB4.cell (p:=⟨Y,1,none⟩) lY).trans zb1;have k6:=(hB4.cell (p:=⟨Rb,6,none⟩) lR).trans q6;have hal4:Below w4.heap.size w4 (w4.alloc (.cells #[.int .i64 x3,.slice ca cn cc] 122)):=(Below.refl _ _).alloc Nat.le.refl _;have hB5:Below wy.heap.size wy (w4.alloc (.cells #[.int .i64 x3,.slice ca cn cc] 122)):=hB4.trans (hal4.mono hB4.size);have k6a:=(hB5.cell (p:=⟨Rb,6,none⟩) lR).trans q6;have o2:=ownsRow_keep HOY.out (fun g hg=>hB5.block g (HYO.out g hg).2);have s2:=src_row (P:=Tryz.prog) (t:=52) (e:=122) Tryz.underlying52 w4 [.int .i64 x3,.slice ca cn cc] rfl (by simp [Value.oneCell']);have hs5:wl.heap.size<=(w4.alloc (.cells #[.int .i64 x3,.slice ca cn cc] 122)).heap.size:=Nat.le_trans hly hB5.size;have hR5:=hRy.on hB5)|fail)
       refine hK.out _ _ ?_ (fun hHeld=>?_)
       ·(try dsimp only);(refine ⟨?_,?_,?_,?_,?_,?_,?_,?_⟩<;>(repeat (with_reducible first|exact ya0|exact ya1|exact ya2|exact ya3|exact ya4|exact ya5|exact yb0|exact yb1|refine cellB_dr ?_|refine cellB_al ?_|refine cellB_set nT ?_|refine cellB_set nY ?_))<;>done)
       clear hK K
       refine wpAnyH_ready (rs:=[10]) (by kernel_rfl) (by simp) ?_
       refine AllReadyH.cons rfl (fun K hK=>?_) AllReadyH.nil
       go_simp
       go_wp2_with (first|(go_at_call 25;(with_reducible refine (hno _ hbyd).mono ?_);rintro e w3 ⟨x3,rfl,b3⟩;have hB3:Below wy.heap.size wy w3:=Below.nxtd (Below.refl _ _) b3;have hb3:=hby.trans (hB3.mono hby.size);have ya0:=(hB3.cell (p:=⟨T,0,none⟩) lT).trans za0;have ya1:=(hB3.cell (p:=⟨T,1,none⟩) lT).trans za1;have ya2:=(hB3.cell (p:=⟨T,2,none⟩) lT).trans za2;have ya3:=(hB3.cell (p:=⟨T,3,none⟩) lT).trans za3;have ya4:=(hB3.cell (p:=⟨T,4,none⟩) lT).trans za4;have ya5:=(hB3.cell (p:=⟨T,5,none⟩) lT).trans za5;have yb0:=(hB3.cell (p:=⟨Y,0,none⟩) lY).trans zb0;have yb1:=(hB3.cell (p:=⟨Y,1,none⟩) lY).trans zb1;have k6:=(hB3.cell (p:=⟨Rb,6,none⟩) lR).trans q6)|(go_at_call 39;(with_reducible refine (hcd _ hb3).mono ?_);rintro e w4 ⟨ca,cn,cc,rfl,b4⟩;have hB4:Below wy.heap.size wy w4:=Below.nxt hB3 b4;have ya0:=(hB4.cell (p:=⟨T,0,none⟩) lT).trans za0;have ya1:=(hB4.cell (p:=⟨T,1,none⟩) lT).trans za1;have ya2:=(hB4.cell (p:=⟨T,2,none⟩) lT).trans za2;have ya3:=(hB4.cell (p:=⟨T,3,none⟩) lT).trans za3;have ya4:=(hB4.cell (p:=⟨T,4,none⟩) lT).trans za4;have ya5:=(hB4.cell (p:=⟨T,5,none⟩) lT).trans za5;have yb0:=(hB4.cell (p:=⟨Y,0,none⟩) lY).trans zb0;have yb1:=(hB4.cell (p:=⟨Y,1,none⟩) lY).trans zb1;have k6:=(hB4.cell (p:=⟨Rb,6,none⟩) lR).trans q6;have hal4:Below w4.heap.size w4 (w4.alloc (.cells #[.int .i64 x3,.slice ca cn cc] 122)):=(Below.refl _ _).alloc Nat.le.refl _;have hB5:Below wy.heap.size wy (w4.alloc (.cells #[.int .i64 x3,.slice ca cn cc] 122)):=hB4.trans (hal4.mono hB4.size);have k6a:=(hB5.cell (p:=⟨Rb,6,none⟩) lR).trans q6;have o2:=ownsRow_keep HOY.out (fun g hg=>hB5.block g (HYO.out g hg).2);have s2:=src_row (P:=Tryz.prog) (t:=52) (e:=122) Tryz.underlying52 w4 [.int .i64 x3,.slice ca cn cc] rfl (by simp [Value.oneCell']);have hs5:wl.heap.size<=(w4.alloc (.cells #[.int .i64 x3,.slice ca cn cc] 122)).heap.size:=Nat.le_trans hly hB5.size;have hR5:=hRy.on hB5)|fail)
       refine hK.out _ _ ?_ (fun hHeld=>?_)
       ·(try dsimp only);(refine ⟨?_,?_,?_,?_,?_,?_,?_,?_⟩<;>(repeat (with_reducible first|exact ya0|exact ya1|exact ya2|exact ya3|exact ya4|exact ya5|exact yb0|exact yb1|refine cellB_dr ?_|refine cellB_al ?_|refine cellB_set nT ?_|refine cellB_set nY ?_))<;>done)
       clear hK K
       refine wpAnyH_take (i:=11) (oi:=_) (v:=_) rfl (by kernel_rfl) (by kernel_rfl) (by kernel_rfl) (fun _ _ _ h=>h) (Or.inl ⟨by rfl,by intro w hSw;(try dsimp only at hSw);go_simp;try (with_reducible rfl)⟩) (by assumption) ?_
       (try simp only [Act.put,List.setIfInBounds_toArray,List.set_cons_zero,List.set_cons_succ])
       refine wpAnyH_ready (rs:=[12]) (by kernel_rfl) (by simp) ?_
       refine AllReadyH.cons rfl (fun K hK=>?_) AllReadyH.nil
       go_simp
       refine hK.out _ _ ?_ (fun hHeld=>?_)
       ·(try dsimp only);(refine ⟨?_,?_,?_,?_,?_,?_,?_,?_⟩<;>(repeat (with_reducible first|exact ya0|exact ya1|exact ya2|exact ya3|exact ya4|exact ya5|exact yb0|exact yb1|refine cellB_dr ?_|refine cellB_al ?_|refine cellB_set nT ?_|refine cellB_set nY ?_))<;>done)
       clear hK K
       refine wpAnyH_ready (rs:=[13]) (by kernel_rfl) (by simp) ?_
       refine AllReadyH.cons rfl (fun K hK=>?_) AllReadyH.nil
       refine step_append_at _ rfl _ _ 52 52 rfl wl.heap.size 122 i0 (.agg #[.int .i64 0,.slice none 0 0]) 2 32 Tryz.underlying52 hi hz0 hz1 hz2 rfl _ j _ rfl o2 _ 1 [.int .i64 x3,.slice ca cn cc] rfl s2 1 (.inr (by omega)) Nat.le.refl (by unfold maxLen;omega) hs5 ?_;intro v9 w9 ho9 hg9 hat9;have hb9:Below wl.heap.size (w4.alloc (.cells #[.int .i64 x3,.slice ca cn cc] 122)) w9:=(Below.refl _ _).grown hg9 hs5 (fun k hk=>(ownsRow_lt o2 k hk).1);have hR9:=hR5.blk (hb9.block Rb hRl);obtain ⟨m6,n6⟩:=hR9 6 _ rfl;have ya0:=(hb9.cell (p:=⟨T,0,none⟩) hTl).trans (cellB_al ya0);have ya1:=(hb9.cell (p:=⟨T,1,none⟩) hTl).trans (cellB_al ya1);have ya2:=(hb9.cell (p:=⟨T,2,none⟩) hTl).trans (cellB_al ya2);have ya3:=(hb9.cell (p:=⟨T,3,none⟩) hTl).trans (cellB_al ya3);have ya4:=(hb9.cell (p:=⟨T,4,none⟩) hTl).trans (cellB_al ya4);have ya5:=(hb9.cell (p:=⟨T,5,none⟩) hTl).trans (cellB_al ya5);have hkY:=hg9.block Y (Nat.lt_of_lt_of_le lY hB5.size) (fun e=>by have h9:=HYL.out Y e.symm;omega);have yb0:=keep_cell (p:=⟨Y,0,none⟩) hkY (cellB_al yb0);have yb1:=keep_cell (p:=⟨Y,1,none⟩) hkY (cellB_al yb1)
       refine hK.out _ _ ?_ (fun hHeld=>?_)
       ·(try dsimp only);(refine ⟨?_,?_,?_,?_,?_,?_,?_,?_⟩<;>(repeat (with_reducible first|exact ya0|exact ya1|exact ya2|exact ya3|exact ya4|exact ya5|exact yb0|exact yb1|refine cellB_dr ?_|refine cellB_al ?_|refine cellB_set nT ?_|refine cellB_set nY ?_))<;>done)
       clear hK K
       obtain ⟨a9,c9,rfl⟩:∃ a c,v9=.slice a (j+1) c:=by
        rcases ho9.2 with ⟨h1,h2⟩|⟨g,cap,cur,h1,_⟩
        ·omega
        ·exact ⟨_,_,h1⟩
       refine wpAnyH_take (i:=14) (oi:=_) (v:=_) rfl (by kernel_rfl) (by kernel_rfl) (by kernel_rfl) (fun _ _ _ h=>h) (Or.inl ⟨by rfl,by intro w hSw;(try dsimp only at hSw);go_simp;try (with_reducible rfl)⟩) (by assumption) ?_
       (try simp only [Act.put,List.setIfInBounds_toArray,List.set_cons_zero,List.set_cons_succ])
       refine wpAnyH_ready (rs:=[15]) (by kernel_rfl) (by simp) ?_
       refine AllReadyH.cons rfl (fun K hK=>?_) AllReadyH.nil
       go_simp
       refine hK.out _ _ ?_ (fun hHeld=>?_)
       ·(try dsimp only);(refine ⟨?_,?_,?_,?_,?_,?_,?_,?_⟩<;>(repeat (with_reducible first|exact ya0|exact ya1|exact ya2|exact ya3|exact ya4|exact ya5|exact yb0|exact yb1|refine cellB_dr ?_|refine cellB_al ?_|refine cellB_set nT ?_|refine cellB_set nY ?_))<;>done)
       clear hK K
       refine wpAnyH_done (by kernel_rfl) ?_ _
       have hRc:Hid (Bn (w9.setCell ⟨Rb,6,none⟩ (.slice a9 (j+1) c9)) Rb [.int .i64 (i:Int),.int .i64 (k:Int),.string ev,.slice none 0 0,.int .i64 tt,.int .i64 sc,.slice a9 (j+1) c9]):=hR9.set (i:=6) (by simp) (.slice a9 (j+1) c9)
       have hOc:Hid ((w9.setCell ⟨Rb,6,none⟩ (.slice a9 (j+1) c9)).ownsRow wl.heap.size 122 2 (.slice a9 (j+1) c9) (j+1) (cs++[.int .i64 x3,.slice ca cn cc])):=ownsRow_keep ho9 (fun g hg=>Below.heap_setCell _ _ _ _ (fun e=>by have h9:=(ownsRow_lt ho9 g hg).1;have e2:g=Rb:=e;omega))
       have hFc:Hid (Fx Rb wl (w9.setCell ⟨Rb,6,none⟩ (.slice a9 (j+1) c9))):=((HFY.out.andD hB5 hly).andD hb9 Nat.le.refl).setX (i:=6) (.slice a9 (j+1) c9)
       clear hR5 hR9 m6 n6 ho9 o2 s2 hg9 hat9 hb9 hB3 hB4 hB5 hal4 b3 b4 hb3 hkY ya0 ya1 ya2 ya3 ya4 ya5 yb0 yb1 k6 k6a
       (try simp only [List.getElem_toArray,List.getElem_cons_succ,List.getElem_cons_zero,List.set_cons_succ,List.set_cons_zero,List.setIfInBounds_toArray])
       subst hTe
       go_wp2
       go_roundw
       case rel=>exact ⟨j+1,a9,c9,_,hlt,by go_num,hRc,hOc,hFc⟩
       case measure=>simp [RowKit.intOf];omega
      ·go_simp
       go_wp2_with (first|(go_at_call 25;(with_reducible refine (hno _ hbyd).mono ?_);rintro e w3 ⟨x3,rfl,b3⟩;have hB3:Below wy.heap.size wy w3:=Below.nxtd (Below.refl _ _) b3;have hb3:=hby.trans (hB3.mono hby.size);have ya0:=(hB3.cell (p:=⟨T,0,none⟩) lT).trans za0;have ya1:=(hB3.cell (p:=⟨T,1,none⟩) lT).trans za1;have ya2:=(hB3.cell (p:=⟨T,2,none⟩) lT).trans za2;have ya3:=(hB3.cell (p:=⟨T,3,none⟩) lT).trans za3;have ya4:=(hB3.cell (p:=⟨T,4,none⟩) lT).trans za4;have ya5:=(hB3.cell (p:=⟨T,5,none⟩) lT).trans za5;have yb0:=(hB3.cell (p:=⟨Y,0,none⟩) lY).trans zb0;have yb1:=(hB3.cell (p:=⟨Y,1,none⟩) lY).trans zb1;have k6:=(hB3.cell (p:=⟨Rb,6,none⟩) lR).trans q6)|(go_at_call 39;(with_reducible refine (hcd _ hb3).mono ?_);rintro e w4 ⟨ca,cn,cc,rfl,b4⟩;have hB4:Below wy.heap.size wy w4:=Below.nxt hB3 b4;have ya0:=(hB4.cell (p:=⟨T,0,none⟩) lT).trans za0;have ya1:=(hB4.cell (p:=⟨T,1,none⟩) lT).trans za1;have ya2:=(hB4.cell (p:=⟨T,2,none⟩) lT).trans za2;have ya3:=(hB4.cell (p:=⟨T,3,none⟩) lT).trans za3;have ya4:=(hB4.cell (p:=⟨T,4,none⟩) lT).trans za4;have ya5:=(hB4.cell (p:=⟨T,5,none⟩) lT).trans za5;have yb0:=(hB4.cell (p:=⟨Y,0,none⟩) lY).trans zb0;have yb1:=(hB4.cell (p:=⟨Y,1,none⟩) lY).trans zb1;have k6:=(hB4.cell (p:=⟨Rb,6,none⟩) lR).trans q6;have hal4:Below w4.heap.size w4 (w4.alloc (.cells #[.int .i64 x3,.slice ca cn cc] 122)):=(Below.refl _ _).alloc Nat.le.refl _;have hB5:Below wy.heap.size wy (w4.alloc (.cells #[.int .i64 x3,.slice ca cn cc] 122)):=hB4.trans (hal4.mono hB4.size);have k6a:=(hB5.cell (p:=⟨Rb,6,none⟩) lR).trans q6;have o2:=ownsRow_keep HOY.out (fun g hg=>hB5.block g (HYO.out g hg).2);have s2:=src_row (P:=Tryz.prog) (t:=52) (e:=122) Tryz.underlying52 w4 [.int .i64 x3,.slice ca cn cc] rfl (by simp [Value.oneCell']);have hs5:wl.heap.size<=(w4.alloc (.cells #[.int .i64 x3,.slice ca cn cc] 122)).heap.size:=Nat.le_trans hly hB5.size;have hR5:=hRy.on hB5)|fail)
       refine hK.out _ _ ?_ (fun hHeld=>?_)
       ·(try dsimp only);(refine ⟨?_,?_,?_,?_,?_,?_,?_,?_⟩<;>(repeat (with_reducible first|exact ya0|exact ya1|exact ya2|exact ya3|exact ya4|exact ya5|exact yb0|exact yb1|refine cellB_dr ?_|refine cellB_al ?_|refine cellB_set nT ?_|refine cellB_set nY ?_))<;>done)
       clear hK K
       refine wpAnyH_ready (rs:=[1,10]) (by kernel_rfl) (by simp) ?_
       refine AllReadyH.cons rfl (fun K hK=>?_) (AllReadyH.cons rfl (fun K hK=>?_) AllReadyH.nil)
       ·go_simp
        refine hK.out _ _ ?_ (fun hHeld=>?_)
        ·(try dsimp only);(refine ⟨?_,?_,?_,?_,?_,?_,?_,?_⟩<;>(repeat (with_reducible first|exact ya0|exact ya1|exact ya2|exact ya3|exact ya4|exact ya5|exact yb0|exact yb1|refine cellB_dr ?_|refine cellB_al ?_|refine cellB_set nT ?_|refine cellB_set nY ?_))<;>done)
        clear hK K
        refine wpAnyH_ready (rs:=[10]) (by kernel_rfl) (by simp) ?_
        refine AllReadyH.cons rfl (fun K hK=>?_) AllReadyH.nil
        go_simp
        go_wp2_with (first|(go_at_call 25;(with_reducible refine (hno _ hbyd).mono ?_);rintro e w3 ⟨x3,rfl,b3⟩;have hB3:Below wy.heap.size wy w3:=Below.nxtd (Below.refl _ _) b3;have hb3:=hby.trans (hB3.mono hby.size);have ya0:=(hB3.cell (p:=⟨T,0,none⟩) lT).trans za0;have ya1:=(hB3.cell (p:=⟨T,1,none⟩) lT).trans za1;have ya2:=(hB3.cell (p:=⟨T,2,none⟩) lT).trans za2;have ya3:=(hB3.cell (p:=⟨T,3,none⟩) lT).trans za3;have ya4:=(hB3.cell (p:=⟨T,4,none⟩) lT).trans za4;have ya5:=(hB3.cell (p:=⟨T,5,none⟩) lT).trans za5;have yb0:=(hB3.cell (p:=⟨Y,0,none⟩) lY).trans zb0;have yb1:=(hB3.cell (p:=⟨Y,1,none⟩) lY).trans zb1;have k6:=(hB3.cell (p:=⟨Rb,6,none⟩) lR).trans q6)|(go_at_call 39;(with_reducible refine (hcd _ hb3).mono ?_);rintro e w4 ⟨ca,cn,cc,rfl,b4⟩;have hB4:Below wy.heap.size wy w4:=Below.nxt hB3 b4;have ya0:=(hB4.cell (p:=⟨T,0,none⟩) lT).trans za0;have ya1:=(hB4.cell (p:=⟨T,1,none⟩) lT).trans za1;have ya2:=(hB4.cell (p:=⟨T,2,none⟩) lT).trans za2;have ya3:=(hB4.cell (p:=⟨T,3,none⟩) lT).trans za3;have ya4:=(hB4.cell (p:=⟨T,4,none⟩) lT).trans za4;have ya5:=(hB4.cell (p:=⟨T,5,none⟩) lT).trans za5;have yb0:=(hB4.cell (p:=⟨Y,0,none⟩) lY).trans zb0;have yb1:=(hB4.cell (p:=⟨Y,1,none⟩) lY).trans zb1;have k6:=(hB4.cell (p:=⟨Rb,6,none⟩) lR).trans q6;have hal4:Below w4.heap.size w4 (w4.alloc (.cells #[.int .i64 x3,.slice ca cn cc] 122)):=(Below.refl _ _).alloc Nat.le.refl _;have hB5:Below wy.heap.size wy (w4.alloc (.cells #[.int .i64 x3,.slice ca cn cc] 122)):=hB4.trans (hal4.mono hB4.size);have k6a:=(hB5.cell (p:=⟨Rb,6,none⟩) lR).trans q6;have o2:=ownsRow_keep HOY.out (fun g hg=>hB5.block g (HYO.out g hg).2);have s2:=src_row (P:=Tryz.prog) (t:=52) (e:=122) Tryz.underlying52 w4 [.int .i64 x3,.slice ca cn cc] rfl (by simp [Value.oneCell']);have hs5:wl.heap.size<=(w4.alloc (.cells #[.int .i64 x3,.slice ca cn cc] 122)).heap.size:=Nat.le_trans hly hB5.size;have hR5:=hRy.on hB5)|fail)
        refine hK.out _ _ ?_ (fun hHeld=>?_)
        ·(try dsimp only);(refine ⟨?_,?_,?_,?_,?_,?_,?_,?_⟩<;>(repeat (with_reducible first|exact ya0|exact ya1|exact ya2|exact ya3|exact ya4|exact ya5|exact yb0|exact yb1|refine cellB_dr ?_|refine cellB_al ?_|refine cellB_set nT ?_|refine cellB_set nY ?_))<;>done)
        clear hK K
        refine wpAnyH_take (i:=11) (oi:=_) (v:=_) rfl (by kernel_rfl) (by kernel_rfl) (by kernel_rfl) (fun _ _ _ h=>h) (Or.inl ⟨by rfl,by intro w hSw;(try dsimp only at hSw);go_simp;try (with_reducible rfl)⟩) (by assumption) ?_
        (try simp only [Act.put,List.setIfInBounds_toArray,List.set_cons_zero,List.set_cons_succ])
        refine wpAnyH_ready (rs:=[12]) (by kernel_rfl) (by simp) ?_
        refine AllReadyH.cons rfl (fun K hK=>?_) AllReadyH.nil
        go_simp
        refine hK.out _ _ ?_ (fun hHeld=>?_)
        ·(try dsimp only);(refine ⟨?_,?_,?_,?_,?_,?_,?_,?_⟩<;>(repeat (with_reducible first|exact ya0|exact ya1|exact ya2|exact ya3|exact ya4|exact ya5|exact yb0|exact yb1|refine cellB_dr ?_|refine cellB_al ?_|refine cellB_set nT ?_|refine cellB_set nY ?_))<;>done)
        clear hK K
        refine wpAnyH_ready (rs:=[13]) (by kernel_rfl) (by simp) ?_
        refine AllReadyH.cons rfl (fun K hK=>?_) AllReadyH.nil
        refine step_append_at _ rfl _ _ 52 52 rfl wl.heap.size 122 i0 (.agg #[.int .i64 0,.slice none 0 0]) 2 32 Tryz.underlying52 hi hz0 hz1 hz2 rfl _ j _ rfl o2 _ 1 [.int .i64 x3,.slice ca cn cc] rfl s2 1 (.inr (by omega)) Nat.le.refl (by unfold maxLen;omega) hs5 ?_;intro v9 w9 ho9 hg9 hat9;have hb9:Below wl.heap.size (w4.alloc (.cells #[.int .i64 x3,.slice ca cn cc] 122)) w9:=(Below.refl _ _).grown hg9 hs5 (fun k hk=>(ownsRow_lt o2 k hk).1);have hR9:=hR5.blk (hb9.block Rb hRl);obtain ⟨m6,n6⟩:=hR9 6 _ rfl;have ya0:=(hb9.cell (p:=⟨T,0,none⟩) hTl).trans (cellB_al ya0);have ya1:=(hb9.cell (p:=⟨T,1,none⟩) hTl).trans (cellB_al ya1);have ya2:=(hb9.cell (p:=⟨T,2,none⟩) hTl).trans (cellB_al ya2);have ya3:=(hb9.cell (p:=⟨T,3,none⟩) hTl).trans (cellB_al ya3);have ya4:=(hb9.cell (p:=⟨T,4,none⟩) hTl).trans (cellB_al ya4);have ya5:=(hb9.cell (p:=⟨T,5,none⟩) hTl).trans (cellB_al ya5);have hkY:=hg9.block Y (Nat.lt_of_lt_of_le lY hB5.size) (fun e=>by have h9:=HYL.out Y e.symm;omega);have yb0:=keep_cell (p:=⟨Y,0,none⟩) hkY (cellB_al yb0);have yb1:=keep_cell (p:=⟨Y,1,none⟩) hkY (cellB_al yb1)
        refine hK.out _ _ ?_ (fun hHeld=>?_)
        ·(try dsimp only);(refine ⟨?_,?_,?_,?_,?_,?_,?_,?_⟩<;>(repeat (with_reducible first|exact ya0|exact ya1|exact ya2|exact ya3|exact ya4|exact ya5|exact yb0|exact yb1|refine cellB_dr ?_|refine cellB_al ?_|refine cellB_set nT ?_|refine cellB_set nY ?_))<;>done)
        clear hK K
        obtain ⟨a9,c9,rfl⟩:∃ a c,v9=.slice a (j+1) c:=by
         rcases ho9.2 with ⟨h1,h2⟩|⟨g,cap,cur,h1,_⟩
         ·omega
         ·exact ⟨_,_,h1⟩
        refine wpAnyH_take (i:=14) (oi:=_) (v:=_) rfl (by kernel_rfl) (by kernel_rfl) (by kernel_rfl) (fun _ _ _ h=>h) (Or.inl ⟨by rfl,by intro w hSw;(try dsimp only at hSw);go_simp;try (with_reducible rfl)⟩) (by assumption) ?_
        (try simp only [Act.put,List.setIfInBounds_toArray,List.set_cons_zero,List.set_cons_succ])
        refine wpAnyH_ready (rs:=[15]) (by kernel_rfl) (by simp) ?_
        refine AllReadyH.cons rfl (fun K hK=>?_) AllReadyH.nil
        go_simp
        refine hK.out _ _ ?_ (fun hHeld=>?_)
        ·(try dsimp only);(refine ⟨?_,?_,?_,?_,?_,?_,?_,?_⟩<;>(repeat (with_reducible first|exact ya0|exact ya1|exact ya2|exact ya3|exact ya4|exact ya5|exact yb0|exact yb1|refine cellB_dr ?_|refine cellB_al ?_|refine cellB_set nT ?_|refine cellB_set nY ?_))<;>done)
        clear hK K
        refine wpAnyH_done (by kernel_rfl) ?_ _
        have hRc:Hid (Bn (w9.setCell ⟨Rb,6,none⟩ (.slice a9 (j+1) c9)) Rb [.int .i64 (i:Int),.int .i64 (k:Int),.string ev,.slice none 0 0,.int .i64 tt,.int .i64 sc,.slice a9 (j+1) c9]):=hR9.set (i:=6) (by simp) (.slice a9 (j+1) c9)
        have hOc:Hid ((w9.setCell ⟨Rb,6,none⟩ (.slice a9 (j+1) c9)).ownsRow wl.heap.size 122 2 (.slice a9 (j+1) c9) (j+1) (cs++[.int .i64 x3,.slice ca cn cc])):=ownsRow_keep ho9 (fun g hg=>Below.heap_setCell _ _ _ _ (fun e=>by have h9:=(ownsRow_lt ho9 g hg).1;have e2:g=Rb:=e;omega))
        have hFc:Hid (Fx Rb wl (w9.setCell ⟨Rb,6,none⟩ (.slice a9 (j+1) c9))):=((HFY.out.andD hB5 hly).andD hb9 Nat.le.refl).setX (i:=6) (.slice a9 (j+1) c9)
        clear hR5 hR9 m6 n6 ho9 o2 s2 hg9 hat9 hb9 hB3 hB4 hB5 hal4 b3 b4 hb3 hkY ya0 ya1 ya2 ya3 ya4 ya5 yb0 yb1 k6 k6a
        (try simp only [List.getElem_toArray,List.getElem_cons_succ,List.getElem_cons_zero,List.set_cons_succ,List.set_cons_zero,List.setIfInBounds_toArray])
        subst hTe
        go_wp2
        go_roundw
        case rel=>exact ⟨j+1,a9,c9,_,hlt,by go_num,hRc,hOc,hFc⟩
        case measure=>simp [RowKit.intOf];omega
       ·go_simp
        go_wp2_with (first|(go_at_call 25;(with_reducible refine (hno _ hbyd).mono ?_);rintro e w3 ⟨x3,rfl,b3⟩;have hB3:Below wy.heap.size wy w3:=Below.nxtd (Below.refl _ _) b3;have hb3:=hby.trans (hB3.mono hby.size);have ya0:=(hB3.cell (p:=⟨T,0,none⟩) lT).trans za0;have ya1:=(hB3.cell (p:=⟨T,1,none⟩) lT).trans za1;have ya2:=(hB3.cell (p:=⟨T,2,none⟩) lT).trans za2;have ya3:=(hB3.cell (p:=⟨T,3,none⟩) lT).trans za3;have ya4:=(hB3.cell (p:=⟨T,4,none⟩) lT).trans za4;have ya5:=(hB3.cell (p:=⟨T,5,none⟩) lT).trans za5;have yb0:=(hB3.cell (p:=⟨Y,0,none⟩) lY).trans zb0;have yb1:=(hB3.cell (p:=⟨Y,1,none⟩) lY).trans zb1;have k6:=(hB3.cell (p:=⟨Rb,6,none⟩) lR).trans q6)|(go_at_call 39;(with_reducible refine (hcd _ hb3).mono ?_);rintro e w4 ⟨ca,cn,cc,rfl,b4⟩;have hB4:Below wy.heap.size wy w4:=Below.nxt hB3 b4;have ya0:=(hB4.cell (p:=⟨T,0,none⟩) lT).trans za0;have ya1:=(hB4.cell (p:=⟨T,1,none⟩) lT).trans za1;have ya2:=(hB4.cell (p:=⟨T,2,none⟩) lT).trans za2;have ya3:=(hB4.cell (p:=⟨T,3,none⟩) lT).trans za3;have ya4:=(hB4.cell (p:=⟨T,4,none⟩) lT).trans za4;have ya5:=(hB4.cell (p:=⟨T,5,none⟩) lT).trans za5;have yb0:=(hB4.cell (p:=⟨Y,0,none⟩) lY).trans zb0;have yb1:=(hB4.cell (p:=⟨Y,1,none⟩) lY).trans zb1;have k6:=(hB4.cell (p:=⟨Rb,6,none⟩) lR).trans q6;have hal4:Below w4.heap.size w4 (w4.alloc (.cells #[.int .i64 x3,.slice ca cn cc] 122)):=(Below.refl _ _).alloc Nat.le.refl _;have hB5:Below wy.heap.size wy (w4.alloc (.cells #[.int .i64 x3,.slice ca cn cc] 122)):=hB4.trans (hal4.mono hB4.size);have k6a:=(hB5.cell (p:=⟨Rb,6,none⟩) lR).trans q6;have o2:=ownsRow_keep HOY.out (fun g hg=>hB5.block g (HYO.out g hg).2);have s2:=src_row (P:=Tryz.prog) (t:=52) (e:=122) Tryz.underlying52 w4 [.int .i64 x3,.slice ca cn cc] rfl (by simp [Value.oneCell']);have hs5:wl.heap.size<=(w4.alloc (.cells #[.int .i64 x3,.slice ca cn cc] 122)).heap.size:=Nat.le_trans hly hB5.size;have hR5:=hRy.on hB5)|fail)
        refine hK.out _ _ ?_ (fun hHeld=>?_)
        ·(try dsimp only);(refine ⟨?_,?_,?_,?_,?_,?_,?_,?_⟩<;>(repeat (with_reducible first|exact ya0|exact ya1|exact ya2|exact ya3|exact ya4|exact ya5|exact yb0|exact yb1|refine cellB_dr ?_|refine cellB_al ?_|refine cellB_set nT ?_|refine cellB_set nY ?_))<;>done)
        clear hK K
        refine wpAnyH_take (i:=11) (oi:=_) (v:=_) rfl (by kernel_rfl) (by kernel_rfl) (by kernel_rfl) (fun _ _ _ h=>h) (Or.inl ⟨by rfl,by intro w hSw;(try dsimp only at hSw);go_simp;try (with_reducible rfl)⟩) (by assumption) ?_
        (try simp only [Act.put,List.setIfInBounds_toArray,List.set_cons_zero,List.set_cons_succ])
        refine wpAnyH_ready (rs:=[1,12]) (by kernel_rfl) (by simp) ?_
        refine AllReadyH.cons rfl (fun K hK=>?_) (AllReadyH.cons rfl (fun K hK=>?_) AllReadyH.nil)
        ·go_simp
         refine hK.out _ _ ?_ (fun hHeld=>?_)
         ·(try dsimp only);(refine ⟨?_,?_,?_,?_,?_,?_,?_,?_⟩<;>(repeat (with_reducible first|exact ya0|exact ya1|exact ya2|exact ya3|exact ya4|exact ya5|exact yb0|exact yb1|refine cellB_dr ?_|refine cellB_al ?_|refine cellB_set nT ?_|refine cellB_set nY ?_))<;>done)
         clear hK K
         refine wpAnyH_ready (rs:=[12]) (by kernel_rfl) (by simp) ?_
         refine AllReadyH.cons rfl (fun K hK=>?_) AllReadyH.nil
         go_simp
         refine hK.out _ _ ?_ (fun hHeld=>?_)
         ·(try dsimp only);(refine ⟨?_,?_,?_,?_,?_,?_,?_,?_⟩<;>(repeat (with_reducible first|exact ya0|exact ya1|exact ya2|exact ya3|exact ya4|exact ya5|exact yb0|exact yb1|refine cellB_dr ?_|refine cellB_al ?_|refine cellB_set nT ?_|refine cellB_set nY ?_))<;>done)
         clear hK K
         refine wpAnyH_ready (rs:=[13]) (by kernel_rfl) (by simp) ?_
         refine AllReadyH.cons rfl (fun K hK=>?_) AllReadyH.nil
         refine step_append_at _ rfl _ _ 52 52 rfl wl.heap.size 122 i0 (.agg #[.int .i64 0,.slice none 0 0]) 2 32 Tryz.underlying52 hi hz0 hz1 hz2 rfl _ j _ rfl o2 _ 1 [.int .i64 x3,.slice ca cn cc] rfl s2 1 (.inr (by omega)) Nat.le.refl (by unfold maxLen;omega) hs5 ?_;intro v9 w9 ho9 hg9 hat9;have hb9:Below wl.heap.size (w4.alloc (.cells #[.int .i64 x3,.slice ca cn cc] 122)) w9:=(Below.refl _ _).grown hg9 hs5 (fun k hk=>(ownsRow_lt o2 k hk).1);have hR9:=hR5.blk (hb9.block Rb hRl);obtain ⟨m6,n6⟩:=hR9 6 _ rfl;have ya0:=(hb9.cell (p:=⟨T,0,none⟩) hTl).trans (cellB_al ya0);have ya1:=(hb9.cell (p:=⟨T,1,none⟩) hTl).trans (cellB_al ya1);have ya2:=(hb9.cell (p:=⟨T,2,none⟩) hTl).trans (cellB_al ya2);have ya3:=(hb9.cell (p:=⟨T,3,none⟩) hTl).trans (cellB_al ya3);have ya4:=(hb9.cell (p:=⟨T,4,none⟩) hTl).trans (cellB_al ya4);have ya5:=(hb9.cell (p:=⟨T,5,none⟩) hTl).trans (cellB_al ya5);have hkY:=hg9.block Y (Nat.lt_of_lt_of_le lY hB5.size) (fun e=>by have h9:=HYL.out Y e.symm;omega);have yb0:=keep_cell (p:=⟨Y,0,none⟩) hkY (cellB_al yb0);have yb1:=keep_cell (p:=⟨Y,1,none⟩) hkY (cellB_al yb1)
         refine hK.out _ _ ?_ (fun hHeld=>?_)
         ·(try dsimp only);(refine ⟨?_,?_,?_,?_,?_,?_,?_,?_⟩<;>(repeat (with_reducible first|exact ya0|exact ya1|exact ya2|exact ya3|exact ya4|exact ya5|exact yb0|exact yb1|refine cellB_dr ?_|refine cellB_al ?_|refine cellB_set nT ?_|refine cellB_set nY ?_))<;>done)
         clear hK K
         obtain ⟨a9,c9,rfl⟩:∃ a c,v9=.slice a (j+1) c:=by
          rcases ho9.2 with ⟨h1,h2⟩|⟨g,cap,cur,h1,_⟩
          ·omega
          ·exact ⟨_,_,h1⟩
         refine wpAnyH_take (i:=14) (oi:=_) (v:=_) rfl (by kernel_rfl) (by kernel_rfl) (by kernel_rfl) (fun _ _ _ h=>h) (Or.inl ⟨by rfl,by intro w hSw;(try dsimp only at hSw);go_simp;try (with_reducible rfl)⟩) (by assumption) ?_
         (try simp only [Act.put,List.setIfInBounds_toArray,List.set_cons_zero,List.set_cons_succ])
         refine wpAnyH_ready (rs:=[15]) (by kernel_rfl) (by simp) ?_
         refine AllReadyH.cons rfl (fun K hK=>?_) AllReadyH.nil
         go_simp
         refine hK.out _ _ ?_ (fun hHeld=>?_)
         ·(try dsimp only);(refine ⟨?_,?_,?_,?_,?_,?_,?_,?_⟩<;>(repeat (with_reducible first|exact ya0|exact ya1|exact ya2|exact ya3|exact ya4|exact ya5|exact yb0|exact yb1|refine cellB_dr ?_|refine cellB_al ?_|refine cellB_set nT ?_|refine cellB_set nY ?_))<;>done)
         clear hK K
         refine wpAnyH_done (by kernel_rfl) ?_ _
         have hRc:Hid (Bn (w9.setCell ⟨Rb,6,none⟩ (.slice a9 (j+1) c9)) Rb [.int .i64 (i:Int),.int .i64 (k:Int),.string ev,.slice none 0 0,.int .i64 tt,.int .i64 sc,.slice a9 (j+1) c9]):=hR9.set (i:=6) (by simp) (.slice a9 (j+1) c9)
         have hOc:Hid ((w9.setCell ⟨Rb,6,none⟩ (.slice a9 (j+1) c9)).ownsRow wl.heap.size 122 2 (.slice a9 (j+1) c9) (j+1) (cs++[.int .i64 x3,.slice ca cn cc])):=ownsRow_keep ho9 (fun g hg=>Below.heap_setCell _ _ _ _ (fun e=>by have h9:=(ownsRow_lt ho9 g hg).1;have e2:g=Rb:=e;omega))
         have hFc:Hid (Fx Rb wl (w9.setCell ⟨Rb,6,none⟩ (.slice a9 (j+1) c9))):=((HFY.out.andD hB5 hly).andD hb9 Nat.le.refl).setX (i:=6) (.slice a9 (j+1) c9)
         clear hR5 hR9 m6 n6 ho9 o2 s2 hg9 hat9 hb9 hB3 hB4 hB5 hal4 b3 b4 hb3 hkY ya0 ya1 ya2 ya3 ya4 ya5 yb0 yb1 k6 k6a
         (try simp only [List.getElem_toArray,List.getElem_cons_succ,List.getElem_cons_zero,List.set_cons_succ,List.set_cons_zero,List.setIfInBounds_toArray])
         subst hTe
         go_wp2
         go_roundw
         case rel=>exact ⟨j+1,a9,c9,_,hlt,by go_num,hRc,hOc,hFc⟩
         case measure=>simp [RowKit.intOf];omega
        ·go_simp
         refine hK.out _ _ ?_ (fun hHeld=>?_)
         ·(try dsimp only);(refine ⟨?_,?_,?_,?_,?_,?_,?_,?_⟩<;>(repeat (with_reducible first|exact ya0|exact ya1|exact ya2|exact ya3|exact ya4|exact ya5|exact yb0|exact yb1|refine cellB_dr ?_|refine cellB_al ?_|refine cellB_set nT ?_|refine cellB_set nY ?_))<;>done)
         clear hK K
         refine wpAnyH_ready (rs:=[1]) (by kernel_rfl) (by simp) ?_
         refine AllReadyH.cons rfl (fun K hK=>?_) AllReadyH.nil
         go_simp
         refine hK.out _ _ ?_ (fun hHeld=>?_)
         ·(try dsimp only);(refine ⟨?_,?_,?_,?_,?_,?_,?_,?_⟩<;>(repeat (with_reducible first|exact ya0|exact ya1|exact ya2|exact ya3|exact ya4|exact ya5|exact yb0|exact yb1|refine cellB_dr ?_|refine cellB_al ?_|refine cellB_set nT ?_|refine cellB_set nY ?_))<;>done)
         clear hK K
         refine wpAnyH_ready (rs:=[13]) (by kernel_rfl) (by simp) ?_
         refine AllReadyH.cons rfl (fun K hK=>?_) AllReadyH.nil
         refine step_append_at _ rfl _ _ 52 52 rfl wl.heap.size 122 i0 (.agg #[.int .i64 0,.slice none 0 0]) 2 32 Tryz.underlying52 hi hz0 hz1 hz2 rfl _ j _ rfl o2 _ 1 [.int .i64 x3,.slice ca cn cc] rfl s2 1 (.inr (by omega)) Nat.le.refl (by unfold maxLen;omega) hs5 ?_;intro v9 w9 ho9 hg9 hat9;have hb9:Below wl.heap.size (w4.alloc (.cells #[.int .i64 x3,.slice ca cn cc] 122)) w9:=(Below.refl _ _).grown hg9 hs5 (fun k hk=>(ownsRow_lt o2 k hk).1);have hR9:=hR5.blk (hb9.block Rb hRl);obtain ⟨m6,n6⟩:=hR9 6 _ rfl;have ya0:=(hb9.cell (p:=⟨T,0,none⟩) hTl).trans (cellB_al ya0);have ya1:=(hb9.cell (p:=⟨T,1,none⟩) hTl).trans (cellB_al ya1);have ya2:=(hb9.cell (p:=⟨T,2,none⟩) hTl).trans (cellB_al ya2);have ya3:=(hb9.cell (p:=⟨T,3,none⟩) hTl).trans (cellB_al ya3);have ya4:=(hb9.cell (p:=⟨T,4,none⟩) hTl).trans (cellB_al ya4);have ya5:=(hb9.cell (p:=⟨T,5,none⟩) hTl).trans (cellB_al ya5);have hkY:=hg9.block Y (Nat.lt_of_lt_of_le lY hB5.size) (fun e=>by have h9:=HYL.out Y e.symm;omega);have yb0:=keep_cell (p:=⟨Y,0,none⟩) hkY (cellB_al yb0);have yb1:=keep_cell (p:=⟨Y,1,none⟩) hkY (cellB_al yb1)
         refine hK.out _ _ ?_ (fun hHeld=>?_)
         ·(try dsimp only);(refine ⟨?_,?_,?_,?_,?_,?_,?_,?_⟩<;>(repeat (with_reducible first|exact ya0|exact ya1|exact ya2|exact ya3|exact ya4|exact ya5|exact yb0|exact yb1|refine cellB_dr ?_|refine cellB_al ?_|refine cellB_set nT ?_|refine cellB_set nY ?_))<;>done)
         clear hK K
         obtain ⟨a9,c9,rfl⟩:∃ a c,v9=.slice a (j+1) c:=by
          rcases ho9.2 with ⟨h1,h2⟩|⟨g,cap,cur,h1,_⟩
          ·omega
          ·exact ⟨_,_,h1⟩
         refine wpAnyH_take (i:=14) (oi:=_) (v:=_) rfl (by kernel_rfl) (by kernel_rfl) (by kernel_rfl) (fun _ _ _ h=>h) (Or.inl ⟨by rfl,by intro w hSw;(try dsimp only at hSw);go_simp;try (with_reducible rfl)⟩) (by assumption) ?_
         (try simp only [Act.put,List.setIfInBounds_toArray,List.set_cons_zero,List.set_cons_succ])
         refine wpAnyH_ready (rs:=[15]) (by kernel_rfl) (by simp) ?_
         refine AllReadyH.cons rfl (fun K hK=>?_) AllReadyH.nil
         go_simp
         refine hK.out _ _ ?_ (fun hHeld=>?_)
         ·(try dsimp only);(refine ⟨?_,?_,?_,?_,?_,?_,?_,?_⟩<;>(repeat (with_reducible first|exact ya0|exact ya1|exact ya2|exact ya3|exact ya4|exact ya5|exact yb0|exact yb1|refine cellB_dr ?_|refine cellB_al ?_|refine cellB_set nT ?_|refine cellB_set nY ?_))<;>done)
         clear hK K
         refine wpAnyH_done (by kernel_rfl) ?_ _
         have hRc:Hid (Bn (w9.setCell ⟨Rb,6,none⟩ (.slice a9 (j+1) c9)) Rb [.int .i64 (i:Int),.int .i64 (k:Int),.string ev,.slice none 0 0,.int .i64 tt,.int .i64 sc,.slice a9 (j+1) c9]):=hR9.set (i:=6) (by simp) (.slice a9 (j+1) c9)
         have hOc:Hid ((w9.setCell ⟨Rb,6,none⟩ (.slice a9 (j+1) c9)).ownsRow wl.heap.size 122 2 (.slice a9 (j+1) c9) (j+1) (cs++[.int .i64 x3,.slice ca cn cc])):=ownsRow_keep ho9 (fun g hg=>Below.heap_setCell _ _ _ _ (fun e=>by have h9:=(ownsRow_lt ho9 g hg).1;have e2:g=Rb:=e;omega))
         have hFc:Hid (Fx Rb wl (w9.setCell ⟨Rb,6,none⟩ (.slice a9 (j+1) c9))):=((HFY.out.andD hB5 hly).andD hb9 Nat.le.refl).setX (i:=6) (.slice a9 (j+1) c9)
         clear hR5 hR9 m6 n6 ho9 o2 s2 hg9 hat9 hb9 hB3 hB4 hB5 hal4 b3 b4 hb3 hkY ya0 ya1 ya2 ya3 ya4 ya5 yb0 yb1 k6 k6a
         (try simp only [List.getElem_toArray,List.getElem_cons_succ,List.getElem_cons_zero,List.set_cons_succ,List.set_cons_zero,List.setIfInBounds_toArray])
         subst hTe
         go_wp2
         go_roundw
         case rel=>exact ⟨j+1,a9,c9,_,hlt,by go_num,hRc,hOc,hFc⟩
         case measure=>simp [RowKit.intOf];omega
    ·have i1:¬ (j:Int) < (ns:Int):=by omega
     have hje:j=ns:=by omega
     subst hje
     have hRt:=HRT.out.fx HFX.out (by omega)
     have hRr:=HRR.out
     obtain ⟨m0,o0⟩:=hRt 0 _ rfl
     obtain ⟨m1,o1⟩:=hRt 1 _ rfl
     obtain ⟨m2,o2⟩:=hRt 2 _ rfl
     obtain ⟨m3,o3⟩:=hRt 3 _ rfl
     obtain ⟨m4,o4⟩:=hRt 4 _ rfl
     obtain ⟨m5,o5⟩:=hRt 5 _ rfl
     obtain ⟨m6,o6⟩:=hRt 6 _ rfl
     have r0:=(hRr 0 _ rfl).1
     have r1:=(hRr 1 _ rfl).1
     have r2:=(hRr 2 _ rfl).1
     have r3:=(hRr 3 _ rfl).1
     have r4:=(hRr 4 _ rfl).1
     have r5:=(hRr 5 _ rfl).1
     have r6:=(hRr 6 _ rfl).1
     clear cb3 hOl HNS HS
     have hfin:=((((((((hRt).set (i:=0) (by simp) (.int .i64 (i:Int))).set (i:=1) (by simp) (.int .i64 (k:Int))).set (i:=2) (by simp) (.string ev)).set (i:=3) (by simp) (.slice none 0 0)).set (i:=4) (by simp) (.int .i64 tt)).set (i:=5) (by simp) (.int .i64 sc)).set (i:=6) (by simp) (.slice ta j tc))
     have hbz:=putL_below [.int .i64 (i:Int),.int .i64 (k:Int),.string ev,.slice none 0 0,.int .i64 tt,.int .i64 sc,.slice ta j tc] wr (w.heap.size+2) 0 hbr (by omega)
     go_wp2
     exact bodyPost_ret (row_res hfin rfl) rfl ⟨⟨_,_,_,_,_,_,rfl⟩,hbz⟩
