import Derived.Test.YtppefcdkgejfbaaGreatDoorXac13
import Derived.Test.YtppefcdkgejfbaaGreatDoorXac12
set_option maxRecDepth 100000
set_option maxHeartbeats 32000000
namespace Go.Proofs.YtppefcdkgejfbaaGreatDoor
open Go.RowKit Go.Lib
set_option linter.unusedSimpArgs false
set_option linter.unusedVariables false
attribute [local go_sem ↓] Go.wp_at_zero Go.wp_at_succ
theorem fst_res {w:World}{R:Nat}{a b:Int}{q:Bool}{tmps:Array Value}(hR:Bn w R [.int .i64 a,.int .i64 b]) (ht:tmps.getD 6 undef=.pointer (some ⟨R,0,none⟩)) (ht2:tmps.getD 7 undef=.bool q):(results Tryz.f127 tmps).run Tryz.prog w=.ok (.tuple #[.agg #[.int .i64 a,.int .i64 b],.bool q]) w:=by
 have ht':tmps[6]?.getD undef=.pointer (some ⟨R,0,none⟩):=by simpa using ht
 have ht2':tmps[7]?.getD undef=.bool q:=by simpa using ht2
 have c0:=(hR 0 _ rfl).1
 have c1:=(hR 1 _ rfl).1
 simp [results,Tryz.results127,go_sem,ht',ht2',c0,c1]
def anP (o:Option Pl):Value:=.tuple #[.agg #[.int .i64 (o.getD (0,0)).1,.int .i64 (o.getD (0,0)).2],.bool o.isSome]
theorem onE_at {ok:Nat->Prop}{w:World}{l:List OnC}{a:Option Addr}{n cap:Nat}(h:RdK ok w 6 (rOn ok w) l (.slice a n cap)) (j:Nat) (hj:j < l.length):∃ (b off:Nat) (ev:ByteArray) (g:Value) (tg:ByteArray) (s1:Option Addr) (ns s3:Nat) (ol oc:Int),a=some ⟨b,off,none⟩/\ok b/\b < w.heap.size/\(g=.nilIface∨∃ u y,g=.iface u y)/\Hid (rOn ok w l[j] [.string ev,g,.string tg,.slice s1 ns s3,.int .i64 ol,.int .i64 oc])/\Hid (l[j].2.2.2.2=(ol,oc))/\∀ i u,[.string ev,g,.string tg,.slice s1 ns s3,.int .i64 ol,.int .i64 oc][i]?=some u->w.cell? ⟨b,off+j*6+i,none⟩=some u:=by
 obtain ⟨b,off,cs,ha,hok,hb,hl,hr,hc⟩:=rdK_at h j hj
 have hr0:=hr
 obtain ⟨sl,rfl,hs⟩:=hr
 obtain ⟨s1,s3,rfl,_⟩:=hs.form
 exact ⟨b,off,_,_,_,s1,_,s3,_,_,ha,hok,hb,gdV_form l[j].2.1,hr0,rfl,hc⟩
theorem frO_end (q:Nat->Bool):∀ (l:List OnC) (j:Nat),(∀ i,i < l.length->q (j+i)=false)->frO q l j=none
 | [],_,_=>rfl
 | o :: r,j,h=>by
  unfold frO
  rw [if_neg (by have:=h 0 (by simp);simpa using this)]
  exact frO_end q r (j+1) (fun i hi=>by have:=h (i+1) (by simpa using hi);rw [show j+1+i=j+(i+1) by omega];exact this)
theorem frO_drop (q:Nat->Bool):∀ (l:List OnC) (m j:Nat),m<=l.length->(∀ i,i < m->q (j+i)=false)->frO q l j=frO q (l.drop m) (j+m)
 | l,0,j,_,_=>by simp
 | [],m+1,j,h,_=>by simp at h
 | o :: r,m+1,j,h,hq=>by
  rw [show frO q (o :: r) j=if q j=true then some o.2.2.2.2 else frO q r (j+1) from rfl,if_neg (by have:=hq 0 (by omega);simpa using this),frO_drop q r m (j+1) (by simpa using h) (fun i hi=>by have:=hq (i+1) (by omega);rw [show j+1+i=j+(i+1) by omega];exact this),List.drop_succ_cons,show j+(m+1)=j+1+m by omega]
theorem first_any {ok:Nat->Prop}{w:World}{Lb d:Nat}{c:ChG d}{fs:List (Int × SgS)}(h:Ly ok w Lb c fs) (hl:fs.length<=1000000) (hol:∀ x∈fs,(sgO x.2).length<=1000000) (n1:Nat) (b1 l1:Array Value) (n2:Nat) (b2 l2:Array Value) (p:Nat->Bool) (q:Nat->Nat->Bool)
  (eg1:∀ args W,(callFunc n1 args).run Tryz.prog W=.ok (.enter n1 args) W) (eg2:∀ args W,(callFunc n2 args).run Tryz.prog W=.ok (.enter n2 args) W)
  (hp:∀ (i:Nat) (hi:i < fs.length) (W:World),Below w.heap.size w W->Calls Tryz.prog n1 (b1++#[.int .i64 (i:Int)]++l1) W fun e w'=>e=.returned (.bool (p i))/\Below W.heap.size W w')
  (hq:∀ (i:Nat) (hi:i < fs.length) (j:Nat) (hj:j < (sgO (fs[i]).2).length) (W:World),Below w.heap.size w W->Calls Tryz.prog n2 (b2++#[.int .i64 (i:Int),.int .i64 (j:Int)]++l2) W fun e w'=>e=.returned (.bool (q i j))/\Below W.heap.size W w') :
  Calls Tryz.prog 127 #[.pointer (some ⟨Lb,0,none⟩),.func (.func n1) b1 l1,.func (.func n2) b2 l2] w fun e w'=>e=.returned (anP (frS p q fs 0))/\Below w.heap.size w w':=by
 have hal:Below w.heap.size w (w.alloc (.cells #[.int .i64 0,.int .i64 0] 23)):=(Below.refl _ _).alloc Nat.le.refl _
 have hX:Bn (w.alloc (.cells #[.int .i64 0,.int .i64 0] 23)) w.heap.size [.int .i64 0,.int .i64 0]:=Bn.new w [.int .i64 0,.int .i64 0] 23 _ rfl
 obtain ⟨g0,g1,g2,g3,g4,g6,g7,g8,g9,sa,sc,oa,oc,h1,h2,h3,h4,h5⟩:=h.on hal
 obtain ⟨hsc,hscm⟩:fs.length<=sc/\sc<=maxLen:=by
  obtain ⟨_,_,he,k1,k2⟩:=h3.form
  simp only [Value.slice.injEq] at he
  omega
 unfold maxLen at hscm
 obtain ⟨n,hn⟩:∃ n,fs.length=n:=⟨_,rfl⟩
 rw [hn] at h1 hsc hl
 have c6:=(h1 6 _ rfl).1
 have HR:=mkHid h3
 rw [hn] at HR
 have HN:=mkHid hn
 have HOL:=mkHid hol
 have HP:=mkHid hp
 have HQ:=mkHid hq
 clear h2 h3 h4 h5 hn h1 h hol hp hq
 go_enter Tryz.func127,Tryz.ntmps127
 go_upto_region 1 with fail
 have hs0:w.heap.size < (w.alloc (.cells #[.int .i64 0,.int .i64 0] 23)).heap.size:=by simp
 generalize (w.alloc (.cells #[.int .i64 0,.int .i64 0] 23))=wx at *
 go_wp2
 go_loopw [17] (fun ix wr=>∃ (i:Nat),i<=n/\ix=.int .i64 (i:Int)/\Hid (frS p q fs 0=frS p q (fs.drop i) i)/\Below wx.heap.size wx wr) (fun ix _=>n - (RowKit.intOf ix).toNat)
 case atStart=>exact ⟨0,Nat.zero_le _,rfl,by show _=_;rw [List.drop_zero],Below.refl _ _⟩
 case round=>
  obtain ⟨wo,hwo⟩:∃ x,x=wr:=⟨_,rfl⟩
  obtain ⟨i,hi,rfl,HX,hb⟩:=hrel
  have hXr:=hX.on hb
  have hbw:Below w.heap.size w wr:=hal.trans (hb.mono (Nat.le_of_lt hs0))
  by_cases hlt:i < n
  ·have hil:i < fs.length:=by rw [HN.out];exact hlt
   obtain ⟨b,off,cs,rfl,_,hbl,_,hr,hc⟩:=rdK_at HR.out i hil
   have hcp:=HP.out i hil
   have hcq:=HQ.out i hil
   obtain ⟨sn,sl,sc',sb,se,sd,su,sw,sr,p1,p3,p4,p6,rfl,HSG,hon⟩:=sg_let hr
   clear hr
   have hno1:(sgO fs[i].2).length<=1000000:=HOL.out _ (List.getElem_mem hil)
   obtain ⟨no,hno⟩:∃ no,(sgO fs[i].2).length=no:=⟨_,rfl⟩
   obtain ⟨ni,hni⟩:∃ no,sgI fs[i].2=no:=⟨_,rfl⟩
   have hon':=hon.stay kp_on (ok':=ok) (w':=wr) (fun b hb' hl=>⟨hb',hb.block b hl⟩)
   rw [hno,hni] at hc
   rw [hno] at hno1 hon'
   have hdr:fs.drop i=fs[i] :: fs.drop (i+1):=List.drop_eq_getElem_cons hil
   have C0:=(hb.cell (p:=⟨b,off+i*11+0,none⟩) hbl).trans (hc 0 _ rfl)
   have C1:=(hb.cell (p:=⟨b,off+i*11+1,none⟩) hbl).trans (hc 1 _ rfl)
   have C2:=(hb.cell (p:=⟨b,off+i*11+2,none⟩) hbl).trans (hc 2 _ rfl)
   have C3:=(hb.cell (p:=⟨b,off+i*11+3,none⟩) hbl).trans (hc 3 _ rfl)
   have C4:=(hb.cell (p:=⟨b,off+i*11+4,none⟩) hbl).trans (hc 4 _ rfl)
   have C5:=(hb.cell (p:=⟨b,off+i*11+5,none⟩) hbl).trans (hc 5 _ rfl)
   have C6:=(hb.cell (p:=⟨b,off+i*11+6,none⟩) hbl).trans (hc 6 _ rfl)
   have C7:=(hb.cell (p:=⟨b,off+i*11+7,none⟩) hbl).trans (hc 7 _ rfl)
   have C8:=(hb.cell (p:=⟨b,off+i*11+8,none⟩) hbl).trans (hc 8 _ rfl)
   have C9:=(hb.cell (p:=⟨b,off+i*11+9,none⟩) hbl).trans (hc 9 _ rfl)
   have C10:=(hb.cell (p:=⟨b,off+i*11+10,none⟩) hbl).trans (hc 10 _ rfl)
   rw [Nat.add_zero] at C0
   clear hc hni hon
   have i1:(i:Int) < (n:Int):=by omega
   have i2:(0:Int)<=(i:Int):=by omega
   have hY:Bn (wr.alloc (.cells #[.string sn,.int .i64 sl,.int .i64 sc',.bool sb,.bool se,.string sd,.string su,.int .i64 sw,.int .i64 sr,.slice p1 no p3,.slice p4 ni p6] 79)) wr.heap.size [.string sn,.int .i64 sl,.int .i64 sc',.bool sb,.bool se,.string sd,.string su,.int .i64 sw,.int .i64 sr,.slice p1 no p3,.slice p4 ni p6]:=Bn.new wr [.string sn,.int .i64 sl,.int .i64 sc',.bool sb,.bool se,.string sd,.string su,.int .i64 sw,.int .i64 sr,.slice p1 no p3,.slice p4 ni p6] 79 _ rfl
   have hb2:Below wr.heap.size wr (wr.alloc (.cells #[.string sn,.int .i64 sl,.int .i64 sc',.bool sb,.bool se,.string sd,.string su,.int .i64 sw,.int .i64 sr,.slice p1 no p3,.slice p4 ni p6] 79)):=(Below.refl _ _).alloc Nat.le.refl _
   have HDR:=mkHid hdr
   have HNO:=mkHid hno
   clear hdr hno
   go_upto_region 4 with fail
   generalize (wr.alloc (.cells #[.string sn,.int .i64 sl,.int .i64 sc',.bool sb,.bool se,.string sd,.string su,.int .i64 sw,.int .i64 sr,.slice p1 no p3,.slice p4 ni p6] 79))=wy at *
   clear C0 C1 C2 C3 C4 C5 C6 C7 C8 C9 C10
   obtain ⟨Y,hYY⟩:∃ Y,wr.heap.size=Y:=⟨_,rfl⟩
   have hb2y:=hb2
   rw [hYY] at hY ⊢
   have hXy:=hXr.on hb2
   have hbwy:Below w.heap.size w wy:=hbw.trans (hb2.mono hbw.size)
   have hby:Below wx.heap.size wx wy:=hb.trans (hb2.mono hb.size)
   have hcp2:=hcp wy hbwy
   have hony:=hon'.stay kp_on (ok':=ok) (w':=wy) (fun b hb' hl=>⟨hb',hb2.block b hl⟩)
   have HSL:Hid ((sl,sc')=sgP fs[i].2):=HSG.out.2.1
   clear hcp HSG hon' hb2 hb2y hYY hXr hbw
   cases hpi:p i with
   | true=>
    rw [hpi] at hcp2
    have HE:Hid (frS p q fs 0=some (sl,sc')):=by
     show _=_
     rw [HX.out,HDR.out]
     unfold frS
     rw [if_pos hpi,HSL.out]
    go_upto_region 5 with (first|(refine hcp2.mono ?_;rintro e w1 ⟨rfl,b1'⟩)|fail)
    have hY1:=hY.on b1'
    have hX1:=hXy.on b1'
    have y1:=(hY1 1 _ rfl).1
    have y2:=(hY1 2 _ rfl).1
    obtain ⟨x0,f0⟩:=hX1 0 _ rfl
    obtain ⟨x1,f1⟩:=hX1 1 _ rfl
    have hXz:=(hX1.set (i:=0) (by simp) (.int .i64 sl)).set (i:=1) (by simp) (.int .i64 sc')
    have hbz:=putL_below [.int .i64 sl,.int .i64 sc'] w1 w.heap.size 0 (hbwy.trans (b1'.mono hbwy.size)) Nat.le.refl
    go_wp2
    exact bodyPost_ret (fst_res hXz rfl rfl) rfl ⟨by rw [HE.out];rfl,hbz⟩
   | false=>
    rw [hpi] at hcp2
    have HE:Hid (frS p q fs 0=match frO (q i) (sgO fs[i].2) 0 with
      | some a=>some a
      | none=>frS p q (fs.drop (i+1)) (i+1)):=by
     show _=_
     rw [HX.out,HDR.out]
     conv=>lhs;unfold frS
     rw [if_neg (by rw [hpi];simp)]
     rfl
    go_upto_region 6 with (first|(refine hcp2.mono ?_;rintro e w1 ⟨rfl,b1'⟩)|fail)
    have hY1:=hY.on b1'
    have hX1:=hXy.on b1'
    have hbw1:Below w.heap.size w w1:=hbwy.trans (b1'.mono hbwy.size)
    have hbx1:Below wx.heap.size wx w1:=hby.trans (b1'.mono hby.size)
    have HON:=mkHid (hony.stay kp_on (ok':=ok) (w':=w1) (fun b hb' hl=>⟨hb',b1'.block b hl⟩))
    obtain ⟨hp3,hp3m⟩:no<=p3/\p3<=maxLen:=by
     obtain ⟨_,_,he,k1,k2⟩:=hony.form
     simp only [Value.slice.injEq] at he
     rw [HNO.out] at k1
     omega
    unfold maxLen at hp3m
    have y9:=(hY1 9 _ rfl).1
    clear hony hcp2 b1' hXy hbwy hby hY HX
    go_wp2
    go_loopw [30] (fun ix wq=>∃ (j:Nat),j<=no/\ix=.int .i64 (j:Int)/\Hid (∀ k,k < j->q i k=false)/\Below w1.heap.size w1 wq) (fun ix _=>no - (RowKit.intOf ix).toNat)
    case atStart=>exact ⟨0,Nat.zero_le _,rfl,fun k hk=>by omega,Below.refl _ _⟩
    case round=>
     clear hwo
     obtain ⟨j,hj,rfl,HJ,hbj⟩:=hrel
     have hXj:=hX1.on hbj
     have hbwj:Below w.heap.size w wr:=hbw1.trans (hbj.mono hbw1.size)
     by_cases hlj:j < no
     ·have hjl:j < (sgO fs[i].2).length:=by rw [HNO.out];exact hlj
      obtain ⟨ob,ooff,ev,gv,tg,s1,ns,s3,ol,oc',rfl,_,hobl,hgv,_,HPL,hoc⟩:=onE_at HON.out j hjl
      have hcq2:=fun W hW=>hcq j hjl W hW
      have j1:(j:Int) < (no:Int):=by omega
      have j2:(0:Int)<=(j:Int):=by omega
      have hdo:frO (q i) (sgO fs[i].2) 0=frO (q i) ((sgO fs[i].2).drop j) j:=by
       have:=frO_drop (q i) (sgO fs[i].2) j 0 (by omega) (fun k hk=>by rw [Nat.zero_add];exact HJ.out k hk)
       rw [Nat.zero_add] at this
       exact this
      have hdo2:(sgO fs[i].2).drop j=(sgO fs[i].2)[j] :: (sgO fs[i].2).drop (j+1):=List.drop_eq_getElem_cons hjl
      have HDO:=mkHid (hdo.trans (congrArg (fun z=>frO (q i) z j) hdo2))
      clear hdo hdo2
      rcases hgv with rfl|⟨gu,gy,rfl⟩
      ·have hZ:Bn (wr.alloc (.cells #[.string ev,.nilIface,.string tg,.slice s1 ns s3,.int .i64 ol,.int .i64 oc'] 88)) wr.heap.size [.string ev,.nilIface,.string tg,.slice s1 ns s3,.int .i64 ol,.int .i64 oc']:=Bn.new wr [.string ev,.nilIface,.string tg,.slice s1 ns s3,.int .i64 ol,.int .i64 oc'] 88 _ rfl
       have hal3:Below wr.heap.size wr (wr.alloc (.cells #[.string ev,.nilIface,.string tg,.slice s1 ns s3,.int .i64 ol,.int .i64 oc'] 88)):=(Below.refl _ _).alloc Nat.le.refl _
       have D0:=(hbj.cell (p:=⟨ob,ooff+j*6+0,none⟩) hobl).trans (hoc 0 _ rfl)
       have D1:=(hbj.cell (p:=⟨ob,ooff+j*6+1,none⟩) hobl).trans (hoc 1 _ rfl)
       have D2:=(hbj.cell (p:=⟨ob,ooff+j*6+2,none⟩) hobl).trans (hoc 2 _ rfl)
       have D3:=(hbj.cell (p:=⟨ob,ooff+j*6+3,none⟩) hobl).trans (hoc 3 _ rfl)
       have D4:=(hbj.cell (p:=⟨ob,ooff+j*6+4,none⟩) hobl).trans (hoc 4 _ rfl)
       have D5:=(hbj.cell (p:=⟨ob,ooff+j*6+5,none⟩) hobl).trans (hoc 5 _ rfl)
       rw [Nat.add_zero] at D0
       clear hoc
       go_upto_region 9 with fail
       generalize (wr.alloc (.cells #[.string ev,.nilIface,.string tg,.slice s1 ns s3,.int .i64 ol,.int .i64 oc'] 88))=wz at *
       clear D0 D1 D2 D3 D4 D5
       have hXz:=hXj.on hal3
       have hbwz:Below w.heap.size w wz:=hbwj.trans (hal3.mono hbwj.size)
       have hcq3:=hcq2 wz hbwz
       rw [Array.append_assoc] at hcq3
       cases hqj:q i j with
       | true=>
        rw [hqj] at hcq3
        have HF:Hid (frS p q fs 0=some (ol,oc')):=by
         show _=_
         rw [HE.out,HDO.out]
         unfold frO
         rw [if_pos hqj,HPL.out]
        go_upto_region 10 with (first|(refine hcq3.mono ?_;rintro e w2 ⟨rfl,b2'⟩)|fail)
        have hZ2:=hZ.on b2'
        have hX2:=hXz.on b2'
        have y4:=(hZ2 4 _ rfl).1
        have y5:=(hZ2 5 _ rfl).1
        obtain ⟨x0,f0⟩:=hX2 0 _ rfl
        obtain ⟨x1,f1⟩:=hX2 1 _ rfl
        have hXf:=(hX2.set (i:=0) (by simp) (.int .i64 ol)).set (i:=1) (by simp) (.int .i64 oc')
        have hbz:=putL_below [.int .i64 ol,.int .i64 oc'] w2 w.heap.size 0 (hbwz.trans (b2'.mono hbwz.size)) Nat.le.refl
        go_wp2
        exact bodyPost_ret (fst_res hXf rfl rfl) rfl ⟨by rw [HF.out];rfl,hbz⟩
       | false=>
        rw [hqj] at hcq3
        have HJ2:Hid (∀ k,k < j+1->q i k=false):=fun k hk=>by
         by_cases e:k=j
         ·rw [e];exact hqj
         ·exact HJ.out k (by omega)
        go_upto_region 11 with (first|(refine hcq3.mono ?_;rintro e w2 ⟨rfl,b2'⟩)|fail)
        have hbj2:Below w1.heap.size w1 w2:=(hbj.trans (hal3.mono hbj.size)).trans (b2'.mono (Nat.le_trans hbj.size hal3.size))
        go_wp2
        go_roundw
        case rel=>exact ⟨j+1,hlj,by go_num,HJ2,hbj2⟩
        case measure=>simp [RowKit.intOf];omega
      ·have hZ:Bn (wr.alloc (.cells #[.string ev,.iface gu gy,.string tg,.slice s1 ns s3,.int .i64 ol,.int .i64 oc'] 88)) wr.heap.size [.string ev,.iface gu gy,.string tg,.slice s1 ns s3,.int .i64 ol,.int .i64 oc']:=Bn.new wr [.string ev,.iface gu gy,.string tg,.slice s1 ns s3,.int .i64 ol,.int .i64 oc'] 88 _ rfl
       have hal3:Below wr.heap.size wr (wr.alloc (.cells #[.string ev,.iface gu gy,.string tg,.slice s1 ns s3,.int .i64 ol,.int .i64 oc'] 88)):=(Below.refl _ _).alloc Nat.le.refl _
       have D0:=(hbj.cell (p:=⟨ob,ooff+j*6+0,none⟩) hobl).trans (hoc 0 _ rfl)
       have D1:=(hbj.cell (p:=⟨ob,ooff+j*6+1,none⟩) hobl).trans (hoc 1 _ rfl)
       have D2:=(hbj.cell (p:=⟨ob,ooff+j*6+2,none⟩) hobl).trans (hoc 2 _ rfl)
       have D3:=(hbj.cell (p:=⟨ob,ooff+j*6+3,none⟩) hobl).trans (hoc 3 _ rfl)
       have D4:=(hbj.cell (p:=⟨ob,ooff+j*6+4,none⟩) hobl).trans (hoc 4 _ rfl)
       have D5:=(hbj.cell (p:=⟨ob,ooff+j*6+5,none⟩) hobl).trans (hoc 5 _ rfl)
       rw [Nat.add_zero] at D0
       clear hoc
       go_upto_region 9 with fail
       generalize (wr.alloc (.cells #[.string ev,.iface gu gy,.string tg,.slice s1 ns s3,.int .i64 ol,.int .i64 oc'] 88))=wz at *
       clear D0 D1 D2 D3 D4 D5
       have hXz:=hXj.on hal3
       have hbwz:Below w.heap.size w wz:=hbwj.trans (hal3.mono hbwj.size)
       have hcq3:=hcq2 wz hbwz
       rw [Array.append_assoc] at hcq3
       cases hqj:q i j with
       | true=>
        rw [hqj] at hcq3
        have HF:Hid (frS p q fs 0=some (ol,oc')):=by
         show _=_
         rw [HE.out,HDO.out]
         unfold frO
         rw [if_pos hqj,HPL.out]
        go_upto_region 10 with (first|(refine hcq3.mono ?_;rintro e w2 ⟨rfl,b2'⟩)|fail)
        have hZ2:=hZ.on b2'
        have hX2:=hXz.on b2'
        have y4:=(hZ2 4 _ rfl).1
        have y5:=(hZ2 5 _ rfl).1
        obtain ⟨x0,f0⟩:=hX2 0 _ rfl
        obtain ⟨x1,f1⟩:=hX2 1 _ rfl
        have hXf:=(hX2.set (i:=0) (by simp) (.int .i64 ol)).set (i:=1) (by simp) (.int .i64 oc')
        have hbz:=putL_below [.int .i64 ol,.int .i64 oc'] w2 w.heap.size 0 (hbwz.trans (b2'.mono hbwz.size)) Nat.le.refl
        go_wp2
        exact bodyPost_ret (fst_res hXf rfl rfl) rfl ⟨by rw [HF.out];rfl,hbz⟩
       | false=>
        rw [hqj] at hcq3
        have HJ2:Hid (∀ k,k < j+1->q i k=false):=fun k hk=>by
         by_cases e:k=j
         ·rw [e];exact hqj
         ·exact HJ.out k (by omega)
        go_upto_region 11 with (first|(refine hcq3.mono ?_;rintro e w2 ⟨rfl,b2'⟩)|fail)
        have hbj2:Below w1.heap.size w1 w2:=(hbj.trans (hal3.mono hbj.size)).trans (b2'.mono (Nat.le_trans hbj.size hal3.size))
        go_wp2
        go_roundw
        case rel=>exact ⟨j+1,hlj,by go_num,HJ2,hbj2⟩
        case measure=>simp [RowKit.intOf];omega
     ·have j1:¬ (j:Int) < (no:Int):=by omega
      have HF:Hid (frS p q fs 0=frS p q (fs.drop (i+1)) (i+1)):=by
       show _=_
       rw [HE.out,frO_end (q i) (sgO fs[i].2) 0 (fun k hk=>by rw [Nat.zero_add];exact HJ.out k (by rw [HNO.out] at hk;omega))]
      have hbi:Below wx.heap.size wx wr:=hbx1.trans (hbj.mono hbx1.size)
      go_wp2
      go_roundw
      case rel=>exact ⟨i+1,hlt,by go_num,HF,hbi⟩
      case measure=>simp [RowKit.intOf];omega
  ·have i1:¬ (i:Int) < (n:Int):=by omega
   have HE:Hid (frS p q fs 0=none):=by
    show _=_
    rw [HX.out,List.drop_of_length_le (by rw [HN.out];omega)]
    rfl
   obtain ⟨x0,f0⟩:=hXr 0 _ rfl
   obtain ⟨x1,f1⟩:=hXr 1 _ rfl
   have hXz:=(hXr.set (i:=0) (by simp) (.int .i64 0)).set (i:=1) (by simp) (.int .i64 0)
   have hbz:=putL_below [.int .i64 0,.int .i64 0] wr w.heap.size 0 hbw Nat.le.refl
   go_wp2
   exact bodyPost_ret (fst_res hXz rfl rfl) rfl ⟨by rw [HE.out];rfl,hbz⟩
theorem fs1_any {ok:Nat->Prop}{W:World}{Lb d:Nat}{c:ChG d}{fs:List (Int × SgS)}(h:Ly ok W Lb c fs) (n3:Nat) (b3 l3:Array Value) (eg3:∀ args W,(callFunc n3 args).run Tryz.prog W=.ok (.enter n3 args) W) (X0 X1:Nat) (h1:Bn W X1 [.func (.func n3) b3 l3]) (h0:Bn W X0 [.pointer (some ⟨Lb,0,none⟩)]) (i:Nat) (hi:i < fs.length) (q:Bool)
  (hcl:∀ (cs:List Value) (W':World),rSg ok W fs[i] cs->Below W.heap.size W W'->Calls Tryz.prog n3 (b3++#[.int .i64 (i:Int),.agg cs.toArray]++l3) W' fun e w'=>e=.returned (.bool q)/\Below W'.heap.size W' w') :
  Calls Tryz.prog 158 #[.int .i64 (i:Int),.pointer (some ⟨X1,0,none⟩),.pointer (some ⟨X0,0,none⟩)] W fun e w'=>e=.returned (.bool q)/\Below W.heap.size W w':=by
 obtain ⟨g0,g1,g2,g3,g4,g6,g7,g8,g9,sa,sc0,oa,oc,k1,k2,k3,k4,k5⟩:=h
 have hLl:=k1.lt
 have hX1l:=h1.lt
 have hX0l:=h0.lt
 have x1:=(h1 0 _ rfl).1
 have x0:=(h0 0 _ rfl).1
 have c6:=(k1 6 _ rfl).1
 obtain ⟨b,off,cs,rfl,_,hbl,_,hr,hc⟩:=rdK_at k3 i hi
 have hcl2:=fun W' hW=>hcl cs W' hr hW
 obtain ⟨sn,sl,sc,sb,se,sd,su,sw,sr,p1,p3,p4,p6,rfl,_,_⟩:=sg_let hr
 obtain ⟨no,hno⟩:∃ no,(sgO fs[i].2).length=no:=⟨_,rfl⟩
 obtain ⟨ni,hni⟩:∃ no,sgI fs[i].2=no:=⟨_,rfl⟩
 rw [hno,hni] at hc hcl2
 obtain ⟨n,hn⟩:∃ n,fs.length=n:=⟨_,rfl⟩
 rw [hn] at c6 hi
 have i1:(i:Int) < (n:Int):=by omega
 have i2:(0:Int)<=(i:Int):=by omega
 have C0:=hc 0 _ rfl
 have C1:=hc 1 _ rfl
 have C2:=hc 2 _ rfl
 have C3:=hc 3 _ rfl
 have C4:=hc 4 _ rfl
 have C5:=hc 5 _ rfl
 have C6:=hc 6 _ rfl
 have C7:=hc 7 _ rfl
 have C8:=hc 8 _ rfl
 have C9:=hc 9 _ rfl
 have C10:=hc 10 _ rfl
 rw [Nat.add_zero] at C0
 simp only [Array.append_assoc] at hcl2
 clear hc hr hcl hno hni hn k1 k2 k3 k4 k5 h1 h0
 go_enter Tryz.func158,Tryz.ntmps158
 go_upto_region 1 with fail
 go_region_held_law (fun w'=>w'.cell? ⟨X1,0,none⟩=some (.func (.func n3) b3 l3)/\w'.cell? ⟨X0,0,none⟩=some (.pointer (some ⟨Lb,0,none⟩))/\w'.cell? ⟨Lb,6,none⟩=some (.slice (some ⟨b,off,none⟩) n sc0)/\w'.cell? ⟨b,off+i*11,none⟩=some (.string sn)/\w'.cell? ⟨b,off+i*11+1,none⟩=some (.int .i64 sl)/\w'.cell? ⟨b,off+i*11+2,none⟩=some (.int .i64 sc)/\w'.cell? ⟨b,off+i*11+3,none⟩=some (.bool sb)/\w'.cell? ⟨b,off+i*11+4,none⟩=some (.bool se)/\w'.cell? ⟨b,off+i*11+5,none⟩=some (.string sd)/\w'.cell? ⟨b,off+i*11+6,none⟩=some (.string su)/\w'.cell? ⟨b,off+i*11+7,none⟩=some (.int .i64 sw)/\w'.cell? ⟨b,off+i*11+8,none⟩=some (.int .i64 sr)/\w'.cell? ⟨b,off+i*11+9,none⟩=some (.slice p1 no p3)/\w'.cell? ⟨b,off+i*11+10,none⟩=some (.slice p4 ni p6))
  ((refine ⟨?_,?_,?_,?_,?_,?_,?_,?_,?_,?_,?_,?_,?_,?_⟩<;>(repeat (with_reducible first|exact x1|exact x0|exact c6|exact C0|exact C1|exact C2|exact C3|exact C4|exact C5|exact C6|exact C7|exact C8|exact C9|exact C10|refine cell_dr ?_))<;>done))
  (first|((with_reducible refine (hcl2 _ ((Below.refl _ W).drew)).mono ?_);rintro e w1 ⟨rfl,b1⟩;have bw:Below W.heap.size W w1:=((Below.refl _ W).drew).trans b1;have x1:=(bw.cell (p:=⟨X1,0,none⟩) hX1l).trans x1;have x0:=(bw.cell (p:=⟨X0,0,none⟩) hX0l).trans x0;have c6:=(bw.cell (p:=⟨Lb,6,none⟩) hLl).trans c6;have C0:=(bw.cell (p:=⟨b,off+i*11,none⟩) hbl).trans C0;have C1:=(bw.cell (p:=⟨b,off+i*11+1,none⟩) hbl).trans C1;have C2:=(bw.cell (p:=⟨b,off+i*11+2,none⟩) hbl).trans C2;have C3:=(bw.cell (p:=⟨b,off+i*11+3,none⟩) hbl).trans C3;have C4:=(bw.cell (p:=⟨b,off+i*11+4,none⟩) hbl).trans C4;have C5:=(bw.cell (p:=⟨b,off+i*11+5,none⟩) hbl).trans C5;have C6:=(bw.cell (p:=⟨b,off+i*11+6,none⟩) hbl).trans C6;have C7:=(bw.cell (p:=⟨b,off+i*11+7,none⟩) hbl).trans C7;have C8:=(bw.cell (p:=⟨b,off+i*11+8,none⟩) hbl).trans C8;have C9:=(bw.cell (p:=⟨b,off+i*11+9,none⟩) hbl).trans C9;have C10:=(bw.cell (p:=⟨b,off+i*11+10,none⟩) hbl).trans C10)|fail)
 go_wp2
 go_ret
 exact ⟨rfl,bw⟩
theorem fo2_any {ok:Nat->Prop}{W:World}{Lb d:Nat}{c:ChG d}{fs:List (Int × SgS)}(h:Ly ok W Lb c fs) (n3:Nat) (b3 l3:Array Value) (eg3:∀ args W,(callFunc n3 args).run Tryz.prog W=.ok (.enter n3 args) W) (X0 X1:Nat) (h1:Bn W X1 [.func (.func n3) b3 l3]) (h0:Bn W X0 [.pointer (some ⟨Lb,0,none⟩)]) (i:Nat) (hi:i < fs.length) (j:Nat) (hj:j < (sgO (fs[i]).2).length) (q:Bool)
  (hcl:∀ (cs:List Value) (W':World),rOn ok W (sgO (fs[i]).2)[j] cs->Below W.heap.size W W'->Calls Tryz.prog n3 (b3++#[.int .i64 (i:Int),.agg cs.toArray]++l3) W' fun e w'=>e=.returned (.bool q)/\Below W'.heap.size W' w') :
  Calls Tryz.prog 163 #[.int .i64 (i:Int),.int .i64 (j:Int),.pointer (some ⟨X1,0,none⟩),.pointer (some ⟨X0,0,none⟩)] W fun e w'=>e=.returned (.bool q)/\Below W.heap.size W w':=by
 obtain ⟨g0,g1,g2,g3,g4,g6,g7,g8,g9,sa,sc0,oa,oc,k1,k2,k3,k4,k5⟩:=h
 have hLl:=k1.lt
 have hX1l:=h1.lt
 have hX0l:=h0.lt
 have x1:=(h1 0 _ rfl).1
 have x0:=(h0 0 _ rfl).1
 have c6:=(k1 6 _ rfl).1
 obtain ⟨b,off,cs,rfl,_,hbl,_,hr,hc⟩:=rdK_at k3 i hi
 obtain ⟨sn,sl,sc,sb,se,sd,su,sw,sr,p1,p3,p4,p6,rfl,_,hon⟩:=sg_let hr
 obtain ⟨ob,ooff,ev,gv,tg,s1,ns,s3,ol,oc',rfl,_,hobl,hgv,HON,_,hoc⟩:=onE_at hon j hj
 have hcl2:=fun W' hW=>hcl _ W' HON.out hW
 have C9:=hc 9 _ rfl
 obtain ⟨no,hno⟩:∃ no,(sgO fs[i].2).length=no:=⟨_,rfl⟩
 rw [hno] at C9 hj
 obtain ⟨n,hn⟩:∃ n,fs.length=n:=⟨_,rfl⟩
 rw [hn] at c6 hi
 have i1:(i:Int) < (n:Int):=by omega
 have i2:(0:Int)<=(i:Int):=by omega
 have j1:(j:Int) < (no:Int):=by omega
 have j2:(0:Int)<=(j:Int):=by omega
 simp only [Array.append_assoc] at hcl2
 clear hc hr hcl hno hn k1 k2 k3 k4 k5 h1 h0 HON
 rcases hgv with rfl|⟨gu,gy,rfl⟩
 ·have D0:=hoc 0 _ rfl
  have D1:=hoc 1 _ rfl
  have D2:=hoc 2 _ rfl
  have D3:=hoc 3 _ rfl
  have D4:=hoc 4 _ rfl
  have D5:=hoc 5 _ rfl
  rw [Nat.add_zero] at D0
  clear hoc
  go_enter Tryz.func163,Tryz.ntmps163
  go_upto_region 1 with fail
  go_region_held_law (fun w'=>w'.cell? ⟨X1,0,none⟩=some (.func (.func n3) b3 l3)/\w'.cell? ⟨X0,0,none⟩=some (.pointer (some ⟨Lb,0,none⟩))/\w'.cell? ⟨Lb,6,none⟩=some (.slice (some ⟨b,off,none⟩) n sc0)/\w'.cell? ⟨b,off+i*11+9,none⟩=some (.slice (some ⟨ob,ooff,none⟩) no p3)/\w'.cell? ⟨ob,ooff+j*6,none⟩=some (.string ev)/\w'.cell? ⟨ob,ooff+j*6+1,none⟩=some .nilIface/\w'.cell? ⟨ob,ooff+j*6+2,none⟩=some (.string tg)/\w'.cell? ⟨ob,ooff+j*6+3,none⟩=some (.slice s1 ns s3)/\w'.cell? ⟨ob,ooff+j*6+4,none⟩=some (.int .i64 ol)/\w'.cell? ⟨ob,ooff+j*6+5,none⟩=some (.int .i64 oc'))
  ((refine ⟨?_,?_,?_,?_,?_,?_,?_,?_,?_,?_⟩<;>(repeat (with_reducible first|exact x1|exact x0|exact c6|exact C9|exact D0|exact D1|exact D2|exact D3|exact D4|exact D5|refine cell_dr ?_))<;>done))
   (first|((with_reducible refine (hcl2 _ ((Below.refl _ W).drew)).mono ?_);rintro e w1 ⟨rfl,b1⟩;have bw:Below W.heap.size W w1:=((Below.refl _ W).drew).trans b1;have x1:=(bw.cell (p:=⟨X1,0,none⟩) hX1l).trans x1;have x0:=(bw.cell (p:=⟨X0,0,none⟩) hX0l).trans x0;have c6:=(bw.cell (p:=⟨Lb,6,none⟩) hLl).trans c6;have C9:=(bw.cell (p:=⟨b,off+i*11+9,none⟩) hbl).trans C9;have D0:=(bw.cell (p:=⟨ob,ooff+j*6,none⟩) hobl).trans D0;have D1:=(bw.cell (p:=⟨ob,ooff+j*6+1,none⟩) hobl).trans D1;have D2:=(bw.cell (p:=⟨ob,ooff+j*6+2,none⟩) hobl).trans D2;have D3:=(bw.cell (p:=⟨ob,ooff+j*6+3,none⟩) hobl).trans D3;have D4:=(bw.cell (p:=⟨ob,ooff+j*6+4,none⟩) hobl).trans D4;have D5:=(bw.cell (p:=⟨ob,ooff+j*6+5,none⟩) hobl).trans D5)|fail)
  go_wp2
  go_ret
  exact ⟨rfl,bw⟩
 ·have D0:=hoc 0 _ rfl
  have D1:=hoc 1 _ rfl
  have D2:=hoc 2 _ rfl
  have D3:=hoc 3 _ rfl
  have D4:=hoc 4 _ rfl
  have D5:=hoc 5 _ rfl
  rw [Nat.add_zero] at D0
  clear hoc
  go_enter Tryz.func163,Tryz.ntmps163
  go_upto_region 1 with fail
  go_region_held_law (fun w'=>w'.cell? ⟨X1,0,none⟩=some (.func (.func n3) b3 l3)/\w'.cell? ⟨X0,0,none⟩=some (.pointer (some ⟨Lb,0,none⟩))/\w'.cell? ⟨Lb,6,none⟩=some (.slice (some ⟨b,off,none⟩) n sc0)/\w'.cell? ⟨b,off+i*11+9,none⟩=some (.slice (some ⟨ob,ooff,none⟩) no p3)/\w'.cell? ⟨ob,ooff+j*6,none⟩=some (.string ev)/\w'.cell? ⟨ob,ooff+j*6+1,none⟩=some (.iface gu gy)/\w'.cell? ⟨ob,ooff+j*6+2,none⟩=some (.string tg)/\w'.cell? ⟨ob,ooff+j*6+3,none⟩=some (.slice s1 ns s3)/\w'.cell? ⟨ob,ooff+j*6+4,none⟩=some (.int .i64 ol)/\w'.cell? ⟨ob,ooff+j*6+5,none⟩=some (.int .i64 oc'))
  ((refine ⟨?_,?_,?_,?_,?_,?_,?_,?_,?_,?_⟩<;>(repeat (with_reducible first|exact x1|exact x0|exact c6|exact C9|exact D0|exact D1|exact D2|exact D3|exact D4|exact D5|refine cell_dr ?_))<;>done))
   (first|((with_reducible refine (hcl2 _ ((Below.refl _ W).drew)).mono ?_);rintro e w1 ⟨rfl,b1⟩;have bw:Below W.heap.size W w1:=((Below.refl _ W).drew).trans b1;have x1:=(bw.cell (p:=⟨X1,0,none⟩) hX1l).trans x1;have x0:=(bw.cell (p:=⟨X0,0,none⟩) hX0l).trans x0;have c6:=(bw.cell (p:=⟨Lb,6,none⟩) hLl).trans c6;have C9:=(bw.cell (p:=⟨b,off+i*11+9,none⟩) hbl).trans C9;have D0:=(bw.cell (p:=⟨ob,ooff+j*6,none⟩) hobl).trans D0;have D1:=(bw.cell (p:=⟨ob,ooff+j*6+1,none⟩) hobl).trans D1;have D2:=(bw.cell (p:=⟨ob,ooff+j*6+2,none⟩) hobl).trans D2;have D3:=(bw.cell (p:=⟨ob,ooff+j*6+3,none⟩) hobl).trans D3;have D4:=(bw.cell (p:=⟨ob,ooff+j*6+4,none⟩) hobl).trans D4;have D5:=(bw.cell (p:=⟨ob,ooff+j*6+5,none⟩) hobl).trans D5)|fail)
  go_wp2
  go_ret
  exact ⟨rfl,bw⟩
theorem fs2_any (W:World) (i j:Int):Calls Tryz.prog 159 #[.int .i64 i,.int .i64 j] W fun e w'=>e=.returned (.bool false)/\Below W.heap.size W w':=by
 go_enter Tryz.func159,Tryz.ntmps159
 go_wp2
 go_ret
 exact ⟨rfl,Below.refl _ _⟩
theorem fo1_any (W:World) (i:Int):Calls Tryz.prog 162 #[.int .i64 i] W fun e w'=>e=.returned (.bool false)/\Below W.heap.size W w':=by
 go_enter Tryz.func162,Tryz.ntmps162
 go_wp2
 go_ret
 exact ⟨rfl,Below.refl _ _⟩
theorem fsr_res {w:World}{R:Nat}{a b:Int}{q:Bool}{tmps:Array Value}(hR:Bn w R [.int .i64 a,.int .i64 b]) (ht:tmps.getD 4 undef=.pointer (some ⟨R,0,none⟩)) (ht2:tmps.getD 5 undef=.bool q):(results Tryz.f131 tmps).run Tryz.prog w=.ok (.tuple #[.agg #[.int .i64 a,.int .i64 b],.bool q]) w:=by
 have ht':tmps[4]?.getD undef=.pointer (some ⟨R,0,none⟩):=by simpa using ht
 have ht2':tmps[5]?.getD undef=.bool q:=by simpa using ht2
 have c0:=(hR 0 _ rfl).1
 have c1:=(hR 1 _ rfl).1
 simp [results,Tryz.results131,go_sem,ht',ht2',c0,c1]
theorem firstState_any {ok:Nat->Prop}{w:World}{Lb d:Nat}{c:ChG d}{fs:List (Int × SgS)}(h:Ly ok w Lb c fs) (hl:fs.length<=1000000) (hol:∀ x∈fs,(sgO x.2).length<=1000000) (n3:Nat) (b3 l3:Array Value) (eg3:∀ args W,(callFunc n3 args).run Tryz.prog W=.ok (.enter n3 args) W) (p:Nat->Bool) (hcl:∀ (i:Nat) (hi:i < fs.length) (cs:List Value) (W W':World),Below w.heap.size w W->rSg ok W fs[i] cs->Below W.heap.size W W'->Calls Tryz.prog n3 (b3++#[.int .i64 (i:Int),.agg cs.toArray]++l3) W' fun e w'=>e=.returned (.bool (p i))/\Below W'.heap.size W' w') :
  Calls Tryz.prog 131 #[.pointer (some ⟨Lb,0,none⟩),.func (.func n3) b3 l3] w fun e w'=>e=.returned (anP (frS p (fun _ _=>false) fs 0))/\Below w.heap.size w w':=by
 have hal:Below w.heap.size w (((w.alloc (.cells #[.pointer (some ⟨Lb,0,none⟩)] 162)).alloc (.cells #[.func (.func n3) b3 l3] 149)).alloc (.cells #[.int .i64 0,.int .i64 0] 23)):=(((Below.refl _ _).alloc Nat.le.refl _).alloc (by simp) _).alloc (by simp;omega) _
 have h0:Bn (((w.alloc (.cells #[.pointer (some ⟨Lb,0,none⟩)] 162)).alloc (.cells #[.func (.func n3) b3 l3] 149)).alloc (.cells #[.int .i64 0,.int .i64 0] 23)) w.heap.size [.pointer (some ⟨Lb,0,none⟩)]:=((Bn.new w [.pointer (some ⟨Lb,0,none⟩)] 162 _ rfl).on ((Below.refl _ _).alloc Nat.le.refl _)).on ((Below.refl _ _).alloc Nat.le.refl _)
 have h1:Bn (((w.alloc (.cells #[.pointer (some ⟨Lb,0,none⟩)] 162)).alloc (.cells #[.func (.func n3) b3 l3] 149)).alloc (.cells #[.int .i64 0,.int .i64 0] 23)) (w.heap.size+1) [.func (.func n3) b3 l3]:=(Bn.new _ [.func (.func n3) b3 l3] _ (w.heap.size+1) (by simp)).on ((Below.refl _ _).alloc Nat.le.refl _)
 have h2:Bn (((w.alloc (.cells #[.pointer (some ⟨Lb,0,none⟩)] 162)).alloc (.cells #[.func (.func n3) b3 l3] 149)).alloc (.cells #[.int .i64 0,.int .i64 0] 23)) (w.heap.size+2) [.int .i64 0,.int .i64 0]:=Bn.new _ [.int .i64 0,.int .i64 0] 23 (w.heap.size+2) (by simp)
 have hLy:=h.on hal
 have hwl:w.heap.size+3=(((w.alloc (.cells #[.pointer (some ⟨Lb,0,none⟩)] 162)).alloc (.cells #[.func (.func n3) b3 l3] 149)).alloc (.cells #[.int .i64 0,.int .i64 0] 23)).heap.size:=by simp
 obtain ⟨R,hR⟩:∃ R,frS p (fun _ _=>false) fs 0=R:=⟨_,rfl⟩
 rw [hR]
 obtain ⟨ra,rb,rq,hA⟩:∃ ra rb rq,anP R=.tuple #[.agg #[.int .i64 ra,.int .i64 rb],.bool rq]:=⟨_,_,_,rfl⟩
 rw [hA]
 have HRR:=mkHid hR
 have HAA:=mkHid hA
 clear hR hA
 go_enter Tryz.func131,Tryz.ntmps131
 go_upto_region 1 with fail
 generalize ((w.alloc (.cells #[.pointer (some ⟨Lb,0,none⟩)] 162)).alloc (.cells #[.func (.func n3) b3 l3] 149)).alloc (.cells #[.int .i64 0,.int .i64 0] 23)=wx at *
 have hcall:=first_any hLy hl hol 158 #[] #[.pointer (some ⟨w.heap.size+1,0,none⟩),.pointer (some ⟨w.heap.size,0,none⟩)] 159 #[] #[] p (fun _ _=>false) (enters_of Tryz.func158 (by kernel_rfl) rfl) (enters_of Tryz.func159 (by kernel_rfl) rfl) (fun i hi W hb=>fs1_any (hLy.on hb) n3 b3 l3 eg3 w.heap.size (w.heap.size+1) (h1.on hb) (h0.on hb) i hi (p i) (fun cs W' hr hW=>hcl i hi cs W W' (hal.trans (hb.mono hal.size)) hr hW)) (fun i hi j hj W hb=>fs2_any W i j)
 rw [HRR.out,HAA.out] at hcall
 clear h eg3 hLy
 have x0:=(h0 0 _ rfl).1
 go_wp2_with (first|(go_at_call 127;refine hcall.mono ?_;rintro e w1 ⟨rfl,b1⟩;have h2':=h2.on b1;obtain ⟨y0,f0⟩:=h2' 0 _ rfl;obtain ⟨y1,f1⟩:=h2' 1 _ rfl)|fail)
 have hz:=(h2'.set (i:=0) (by simp) (.int .i64 ra)).set (i:=1) (by simp) (.int .i64 rb)
 have hbz:=putL_below [.int .i64 ra,.int .i64 rb] w1 (w.heap.size+2) 0 (hal.trans (b1.mono hal.size)) (by omega)
 exact bodyPost_ret (fsr_res hz rfl rfl) rfl ⟨rfl,hbz⟩
theorem for_res {w:World}{R:Nat}{a b:Int}{q:Bool}{tmps:Array Value}(hR:Bn w R [.int .i64 a,.int .i64 b]) (ht:tmps.getD 4 undef=.pointer (some ⟨R,0,none⟩)) (ht2:tmps.getD 5 undef=.bool q):(results Tryz.f135 tmps).run Tryz.prog w=.ok (.tuple #[.agg #[.int .i64 a,.int .i64 b],.bool q]) w:=by
 have ht':tmps[4]?.getD undef=.pointer (some ⟨R,0,none⟩):=by simpa using ht
 have ht2':tmps[5]?.getD undef=.bool q:=by simpa using ht2
 have c0:=(hR 0 _ rfl).1
 have c1:=(hR 1 _ rfl).1
 simp [results,Tryz.results135,go_sem,ht',ht2',c0,c1]
theorem firstOn_any {ok:Nat->Prop}{w:World}{Lb d:Nat}{c:ChG d}{fs:List (Int × SgS)}(h:Ly ok w Lb c fs) (hl:fs.length<=1000000) (hol:∀ x∈fs,(sgO x.2).length<=1000000) (n3:Nat) (b3 l3:Array Value) (eg3:∀ args W,(callFunc n3 args).run Tryz.prog W=.ok (.enter n3 args) W) (q:Nat->Nat->Bool) (hcl:∀ (i:Nat) (hi:i < fs.length) (j:Nat) (hj:j < (sgO (fs[i]).2).length) (cs:List Value) (W W':World),Below w.heap.size w W->rOn ok W (sgO (fs[i]).2)[j] cs->Below W.heap.size W W'->Calls Tryz.prog n3 (b3++#[.int .i64 (i:Int),.agg cs.toArray]++l3) W' fun e w'=>e=.returned (.bool (q i j))/\Below W'.heap.size W' w') :
  Calls Tryz.prog 135 #[.pointer (some ⟨Lb,0,none⟩),.func (.func n3) b3 l3] w fun e w'=>e=.returned (anP (frS (fun _=>false) q fs 0))/\Below w.heap.size w w':=by
 have hal:Below w.heap.size w (((w.alloc (.cells #[.pointer (some ⟨Lb,0,none⟩)] 162)).alloc (.cells #[.func (.func n3) b3 l3] 232)).alloc (.cells #[.int .i64 0,.int .i64 0] 23)):=(((Below.refl _ _).alloc Nat.le.refl _).alloc (by simp) _).alloc (by simp;omega) _
 have h0:Bn (((w.alloc (.cells #[.pointer (some ⟨Lb,0,none⟩)] 162)).alloc (.cells #[.func (.func n3) b3 l3] 232)).alloc (.cells #[.int .i64 0,.int .i64 0] 23)) w.heap.size [.pointer (some ⟨Lb,0,none⟩)]:=((Bn.new w [.pointer (some ⟨Lb,0,none⟩)] 162 _ rfl).on ((Below.refl _ _).alloc Nat.le.refl _)).on ((Below.refl _ _).alloc Nat.le.refl _)
 have h1:Bn (((w.alloc (.cells #[.pointer (some ⟨Lb,0,none⟩)] 162)).alloc (.cells #[.func (.func n3) b3 l3] 232)).alloc (.cells #[.int .i64 0,.int .i64 0] 23)) (w.heap.size+1) [.func (.func n3) b3 l3]:=(Bn.new _ [.func (.func n3) b3 l3] _ (w.heap.size+1) (by simp)).on ((Below.refl _ _).alloc Nat.le.refl _)
 have h2:Bn (((w.alloc (.cells #[.pointer (some ⟨Lb,0,none⟩)] 162)).alloc (.cells #[.func (.func n3) b3 l3] 232)).alloc (.cells #[.int .i64 0,.int .i64 0] 23)) (w.heap.size+2) [.int .i64 0,.int .i64 0]:=Bn.new _ [.int .i64 0,.int .i64 0] 23 (w.heap.size+2) (by simp)
 have hLy:=h.on hal
 have hwl:w.heap.size+3=(((w.alloc (.cells #[.pointer (some ⟨Lb,0,none⟩)] 162)).alloc (.cells #[.func (.func n3) b3 l3] 232)).alloc (.cells #[.int .i64 0,.int .i64 0] 23)).heap.size:=by simp
 obtain ⟨R,hR⟩:∃ R,frS (fun _=>false) q fs 0=R:=⟨_,rfl⟩
 rw [hR]
 obtain ⟨ra,rb,rq,hA⟩:∃ ra rb rq,anP R=.tuple #[.agg #[.int .i64 ra,.int .i64 rb],.bool rq]:=⟨_,_,_,rfl⟩
 rw [hA]
 have HRR:=mkHid hR
 have HAA:=mkHid hA
 clear hR hA
 go_enter Tryz.func135,Tryz.ntmps135
 go_upto_region 1 with fail
 generalize ((w.alloc (.cells #[.pointer (some ⟨Lb,0,none⟩)] 162)).alloc (.cells #[.func (.func n3) b3 l3] 232)).alloc (.cells #[.int .i64 0,.int .i64 0] 23)=wx at *
 have hcall:=first_any hLy hl hol 162 #[] #[] 163 #[] #[.pointer (some ⟨w.heap.size+1,0,none⟩),.pointer (some ⟨w.heap.size,0,none⟩)] (fun _=>false) q (enters_of Tryz.func162 (by kernel_rfl) rfl) (enters_of Tryz.func163 (by kernel_rfl) rfl) (fun i hi W hb=>fo1_any W i) (fun i hi j hj W hb=>fo2_any (hLy.on hb) n3 b3 l3 eg3 w.heap.size (w.heap.size+1) (h1.on hb) (h0.on hb) i hi j hj (q i j) (fun cs W' hr hW=>hcl i hi j hj cs W W' (hal.trans (hb.mono hal.size)) hr hW))
 rw [HRR.out,HAA.out] at hcall
 clear h eg3 hLy
 have x0:=(h0 0 _ rfl).1
 go_wp2_with (first|(go_at_call 127;refine hcall.mono ?_;rintro e w1 ⟨rfl,b1⟩;have h2':=h2.on b1;obtain ⟨y0,f0⟩:=h2' 0 _ rfl;obtain ⟨y1,f1⟩:=h2' 1 _ rfl)|fail)
 have hz:=(h2'.set (i:=0) (by simp) (.int .i64 ra)).set (i:=1) (by simp) (.int .i64 rb)
 have hbz:=putL_below [.int .i64 ra,.int .i64 rb] w1 (w.heap.size+2) 0 (hal.trans (b1.mono hal.size)) (by omega)
 exact bodyPost_ret (for_res hz rfl rfl) rfl ⟨rfl,hbz⟩
def stpB (sd:ByteArray):Bool:=!sd.toList.isEmpty
def sgD (x:SgS):ByteArray:=⟨(sgH x).2.2.1.1.toArray⟩
theorem tm1_any (W:World) (i:Int):Calls Tryz.prog 128 #[.int .i64 i] W fun e w'=>e=.returned (.bool (i == 40))/\Below W.heap.size W w':=by
 go_enter Tryz.func128,Tryz.ntmps128
 go_wp2
 go_ret
 exact ⟨rfl,Below.refl _ _⟩
theorem step_any (W:World) (sn:ByteArray) (sl sc:Int) (sb se:Bool) (sd su:ByteArray) (sw sr:Int) (p1:Option Addr) (no p3:Nat) (p4:Option Addr) (ni p6:Nat):Calls Tryz.prog 143 #[.agg #[.string sn,.int .i64 sl,.int .i64 sc,.bool sb,.bool se,.string sd,.string su,.int .i64 sw,.int .i64 sr,.slice p1 no p3,.slice p4 ni p6]] W fun e w'=>e=.returned (.bool (stpB sd))/\Below W.heap.size W w':=by
 have hal:Below W.heap.size W (W.alloc (.cells #[.string sn,.int .i64 sl,.int .i64 sc,.bool sb,.bool se,.string sd,.string su,.int .i64 sw,.int .i64 sr,.slice p1 no p3,.slice p4 ni p6] 79)):=(Below.refl _ _).alloc Nat.le.refl _
 go_enter Tryz.func143,Tryz.ntmps143
 go_wp2
 go_ret
 exact ⟨rfl,hal⟩
theorem or1_any {ok:Nat->Prop}{w:World}{x:Int × SgS}{cs:List Value}(hr:rSg ok w x cs) (W:World) (i:Int) :
  Calls Tryz.prog 134 #[.int .i64 i,.agg cs.toArray] W fun e w'=>e=.returned (.bool (decide (4<=(sgH x.2).2.2.2.1.1) || decide (5 < (sgH x.2).2.2.2.1.2)))/\Below W.heap.size W w':=by
 obtain ⟨sn,sl,sc,sb,se,sd,su,sw,sr,p1,p3,p4,p6,rfl,HS,_⟩:=sg_let hr
 rw [<- HS.out.2.2.2.2.2.2.1,<- HS.out.2.2.2.2.2.2.2]
 obtain ⟨no,hno⟩:∃ no,(sgO x.2).length=no:=⟨_,rfl⟩
 obtain ⟨ni,hni⟩:∃ no,sgI x.2=no:=⟨_,rfl⟩
 rw [hno,hni]
 clear hr hno hni HS
 have hal:Below W.heap.size W (W.alloc (.cells #[.string sn,.int .i64 sl,.int .i64 sc,.bool sb,.bool se,.string sd,.string su,.int .i64 sw,.int .i64 sr,.slice p1 no p3,.slice p4 ni p6] 79)):=(Below.refl _ _).alloc Nat.le.refl _
 go_enter Tryz.func134,Tryz.ntmps134
 by_cases h1:4<=sw
 ·have h1':sw≥4:=h1
  go_wp2
  go_ret
  exact ⟨by simp [h1],hal⟩
 ·have h1':¬ sw≥4:=h1
  by_cases h2:5 < sr
  ·have h2':sr > 5:=h2
   go_wp2
   go_ret
   exact ⟨by simp [h2],hal⟩
  ·have h2':¬ sr > 5:=h2
   go_wp2
   go_ret
   exact ⟨by simp [h1,h2],hal⟩
theorem nt1_any {ok:Nat->Prop}{w:World}{x:Int × SgS}{cs:List Value}(hr:rSg ok w x cs) {W:World}{Lb d:Nat}{c:ChG d}{fs:List (Int × SgS)}(h:Ly ok W Lb c fs) (hl:fs.length<=1000000) (X0:Nat) (h0:Bn W X0 [.pointer (some ⟨Lb,0,none⟩)]) (i:Int) :
  Calls Tryz.prog 132 #[.int .i64 i,.agg cs.toArray,.pointer (some ⟨X0,0,none⟩)] W fun e w'=>e=.returned (.bool (decide (fdS fs (sgN x.2) < i)))/\Below W.heap.size W w':=by
 obtain ⟨sn,sl,sc,sb,se,sd,su,sw,sr,p1,p3,p4,p6,rfl,HS,_⟩:=sg_let hr
 rw [<- HS.out.1]
 obtain ⟨no,hno⟩:∃ no,(sgO x.2).length=no:=⟨_,rfl⟩
 obtain ⟨ni,hni⟩:∃ no,sgI x.2=no:=⟨_,rfl⟩
 rw [hno,hni]
 clear hr hno hni HS
 have hal:Below W.heap.size W (W.alloc (.cells #[.string sn,.int .i64 sl,.int .i64 sc,.bool sb,.bool se,.string sd,.string su,.int .i64 sw,.int .i64 sr,.slice p1 no p3,.slice p4 ni p6] 79)):=(Below.refl _ _).alloc Nat.le.refl _
 have hc:=stateL_any (h.on hal) hl sn
 obtain ⟨F,hF⟩:∃ F,fdS fs sn=F:=⟨_,rfl⟩
 rw [hF] at hc ⊢
 obtain ⟨x0,_⟩:=(h0.on hal) 0 _ rfl
 clear h hF h0
 go_enter Tryz.func132,Tryz.ntmps132
 by_cases h1:F < i
 ·go_wp2_with (first|(go_at_call 133;refine hc.mono ?_;rintro e w1 ⟨rfl,b1⟩)|fail)
  go_ret
  exact ⟨by simp [h1],hal.trans (b1.mono hal.size)⟩
 ·go_wp2_with (first|(go_at_call 133;refine hc.mono ?_;rintro e w1 ⟨rfl,b1⟩)|fail)
  go_ret
  exact ⟨by simp [h1],hal.trans (b1.mono hal.size)⟩
theorem tm2_any {W:World}{ok:Nat->Prop}{Lb d:Nat}{c:ChG d}{fs:List (Int × SgS)}(h:Ly ok W Lb c fs) (X0:Nat) (h0:Bn W X0 [.pointer (some ⟨Lb,0,none⟩)]) (i:Nat) (hi:i < fs.length) (j:Nat) (hj:j < (sgO (fs[i]).2).length) :
  Calls Tryz.prog 129 #[.int .i64 (i:Int),.int .i64 (j:Int),.pointer (some ⟨X0,0,none⟩)] W fun e w'=>e=.returned (.bool (decide ((j:Int)=6) || decide (4 < (sgO (fs[i]).2)[j].2.2.2.1.length)))/\Below W.heap.size W w':=by
 obtain ⟨g0,g1,g2,g3,g4,g6,g7,g8,g9,sa,sc0,oa,oc,k1,k2,k3,k4,k5⟩:=h
 have x0:=(h0 0 _ rfl).1
 have c6:=(k1 6 _ rfl).1
 obtain ⟨b,off,cs,rfl,_,hbl,_,hr,hc⟩:=rdK_at k3 i hi
 obtain ⟨sn,sl,sc,sb,se,sd,su,sw,sr,p1,p3,p4,p6,rfl,_,hon⟩:=sg_let hr
 obtain ⟨ob,ooff,ev,gv,tg,s1,ns,s3,ol,oc',rfl,_,hobl,hgv,HON,_,hoc⟩:=onE_at hon j hj
 have hns:(sgO (fs[i]).2)[j].2.2.2.1.length=ns:=by
  obtain ⟨sl2,he,hs⟩:=HON.out
  unfold onV at he
  simp only [List.cons.injEq] at he
  have h4:=he.2.2.2.1
  obtain ⟨_,_,hv,_⟩:=hs.form
  rw [<- h4] at hv
  simp only [Value.slice.injEq] at hv
  exact hv.2.1.symm
 rw [hns]
 have C9:=hc 9 _ rfl
 have D3:=hoc 3 _ rfl
 obtain ⟨no,hno⟩:∃ no,(sgO fs[i].2).length=no:=⟨_,rfl⟩
 rw [hno] at C9 hj
 obtain ⟨n,hn⟩:∃ n,fs.length=n:=⟨_,rfl⟩
 rw [hn] at c6 hi
 have i1:(i:Int) < (n:Int):=by omega
 have i2:(0:Int)<=(i:Int):=by omega
 have j1:(j:Int) < (no:Int):=by omega
 have j2:(0:Int)<=(j:Int):=by omega
 clear hc hoc hr hno hn k1 k2 k3 k4 k5 h0 HON hns hon
 go_enter Tryz.func129,Tryz.ntmps129
 by_cases h1:(j:Int)=6
 ·go_wp2
  go_ret
  exact ⟨by simp [h1],Below.refl _ _⟩
 ·by_cases h2:4 < ns
  ·have h2':(ns:Int) > 4:=by omega
   go_wp2
   go_ret
   exact ⟨by simp [h2],Below.refl _ _⟩
  ·have h2':¬ (ns:Int) > 4:=by omega
   go_wp2
   go_ret
   exact ⟨by simp [h1,h2],Below.refl _ _⟩
abbrev Fo:=(d:Nat) × List (St d)
abbrev Pd:=(Nat × Nat) × Fo
def pdA (p:Pd):Addr:=⟨p.1.1,p.1.2,none⟩
def pdV (p:Pd):Value:=.pointer (some (pdA p))
def RdSp (B:Nat) (w:World) (x:Fo) (v:Value):Prop:=RdK (Nw B w) w 11 (rSt x.1 (Nw B w) w) (x.2.map (stS x.1)) v
structure Agr (X:Nat->Prop) (P:List Pd) (w w':World):Prop where
 size:w.heap.size<=w'.heap.size
 block:∀ b,b < w.heap.size->¬ X b->(∀ p∈P,p.1.1≠b)->w'.heap[b]?=w.heap[b]?
 cell:∀ b o,b < w.heap.size->¬ X b->(∀ p∈P,p.1≠(b,o))->w'.cell? ⟨b,o,none⟩=w.cell? ⟨b,o,none⟩
 fz:∀ b o,b < w.heap.size->¬ X b->w'.frozen? ⟨b,o,none⟩=w.frozen? ⟨b,o,none⟩
theorem Agr.refl (X:Nat->Prop) (P:List Pd) (w:World):Agr X P w w:=⟨Nat.le_refl _,fun _ _ _ _=>rfl,fun _ _ _ _ _=>rfl,fun _ _ _ _=>rfl⟩
def Wnd (B:Nat) (X:Nat->Prop) (P:List Pd) (w:World) (R:World->Prop):Prop:=∀ w',Agr X P w w'->(∀ p∈P,∃ v,w'.cell? (pdA p)=some v/\RdSp B w' p.2 v)->R w'
theorem Wnd.end {B:Nat}{X:Nat->Prop}{w:World}{R:World->Prop}(h:Wnd B X [] w R):R w:=h w (Agr.refl _ _ _) (fun p hp=>by cases hp)
theorem Wnd.move {B:Nat}{X X':Nat->Prop}{P:List Pd}{w w1:World}{R:World->Prop}(h:Wnd B X P w R) (hs:w.heap.size<=w1.heap.size) (hX:∀ b,X' b->X b∨w.heap.size<=b) (hb:∀ b,b < w.heap.size->¬ X b->w1.heap[b]?=w.heap[b]?):Wnd B X' P w1 R:=fun w' hA hr=>by
 have nx:∀ b,b < w.heap.size->¬ X b->¬ X' b:=fun b hl hn q=>by
  rcases hX b q with h|h
  ·exact hn h
  ·omega
 exact h w' ⟨Nat.le_trans hs hA.size,fun b hl hn hp=>(hA.block b (Nat.lt_of_lt_of_le hl hs) (nx b hl hn) hp).trans (hb b hl hn),fun b o hl hn hp=>(hA.cell b o (Nat.lt_of_lt_of_le hl hs) (nx b hl hn) hp).trans (World.cell?_of_block (w:=w) (a:=⟨b,o,none⟩) (hb b hl hn)),fun b o hl hn=>(hA.fz b o (Nat.lt_of_lt_of_le hl hs) (nx b hl hn)).trans (frozen_of_block (hb b hl hn))⟩ hr
theorem Wnd.zero {B:Nat}{X:Nat->Prop}{P:List Pd}{a:Nat × Nat}{l:List (St 0)}{w:World}{R:World->Prop}(h:Wnd B X (P++[(a,⟨0,l⟩)]) w R):Wnd B X (P++[(a,(⟨1,[]⟩:Fo))]) w R:=fun w' hA hr=>by
 cases l with
 | cons x _=>exact Empty.elim x
 | nil=>
  refine h w' ⟨hA.size,fun b hl hn hp=>hA.block b hl hn (fun p hp'=>?_),fun b o hl hn hp=>hA.cell b o hl hn (fun p hp'=>?_),hA.fz⟩ (fun p hp=>?_)
  ·rcases List.mem_append.1 hp' with h|h
   ·exact hp p (List.mem_append_left _ h)
   ·have:p=(a,(⟨1,[]⟩:Fo)):=by simpa using h
    subst this
    exact hp (a,(⟨0,[]⟩:Fo)) (List.mem_append_right _ List.mem_cons_self)
  ·rcases List.mem_append.1 hp' with h|h
   ·exact hp p (List.mem_append_left _ h)
   ·have:p=(a,(⟨1,[]⟩:Fo)):=by simpa using h
    subst this
    exact hp (a,(⟨0,[]⟩:Fo)) (List.mem_append_right _ List.mem_cons_self)
  ·rcases List.mem_append.1 hp with h|h
   ·exact hr p (List.mem_append_left _ h)
   ·have:p=(a,(⟨0,[]⟩:Fo)):=by simpa using h
    subst this
    obtain ⟨v,h1,a1,cap,h2,h3,h4,_⟩:=hr (a,(⟨1,[]⟩:Fo)) (List.mem_append_right _ List.mem_cons_self)
    exact ⟨v,h1,a1,cap,h2,h3,h4,fun i hi=>absurd hi (by simp)⟩
def kidC (G d:Nat):Nat->List (St (d+1))->List Pd
 | _,[]=>[]
 | i,t :: l=>((G,i*11+10),⟨d,t.2⟩) :: kidC G d (i+1) l
theorem kid_mem {G:Nat}:∀ {i d:Nat}{l:List (St (d+1))}{p:Pd},p∈kidC G d i l->∃ (j:Nat) (hj:j < l.length),p=((G,(i+j)*11+10),⟨d,l[j].2⟩)
 | i,d,[],p,h=>by cases h
 | i,d,t :: l,p,h=>by
  rcases List.mem_cons.1 h with rfl|h
  ·exact ⟨0,by simp,rfl⟩
  ·obtain ⟨j,hj,rfl⟩:=kid_mem h
   exact ⟨j+1,by simpa using hj,by rw [show i+1+j=i+(j+1) by omega];rfl⟩
theorem kid_of {G:Nat}:∀ {i d:Nat}{l:List (St (d+1))}(j:Nat) (hj:j < l.length),(((G,(i+j)*11+10),⟨d,l[j].2⟩):Pd)∈kidC G d i l
 | i,d,[],j,hj=>by simp at hj
 | i,d,t :: l,0,_=>List.mem_cons_self
 | i,d,t :: l,j+1,hj=>by
  have:=kid_of (G:=G) (i:=i+1) (d:=d) (l:=l) j (by simpa using hj)
  rw [show i+1+j=i+(j+1) by omega] at this
  exact List.mem_cons_of_mem _ this
theorem kid_len {G:Nat}:∀ (i d:Nat) (l:List (St (d+1))),(kidC G d i l).length=l.length
 | i,d,[]=>rfl
 | i,d,t :: l=>congrArg (· + 1) (kid_len (i+1) d l)
theorem kid_get {G:Nat}:∀ (i d:Nat) (l:List (St (d+1))) (j:Nat) (hj:j < l.length) (hj':j < (kidC G d i l).length),(kidC G d i l)[j]=(((G,(i+j)*11+10),⟨d,l[j].2⟩):Pd)
 | i,d,[],j,hj,_=>by simp at hj
 | i,d,t :: l,0,_,_=>rfl
 | i,d,t :: l,j+1,hj,hj'=>by
  have:=kid_get (G:=G) (i+1) d l j (by simpa using hj) (by rw [kid_len];simpa using hj)
  rw [show i+1+j=i+(j+1) by omega] at this
  exact this
theorem Wnd.step {B:Nat}{X:Nat->Prop}{P:List Pd}{p:Pd}{w w1:World}{R:World->Prop}{d:Nat}{l:List (St (d+1))}{okO:Nat->Prop}{wO:World}(hp:p.2=⟨d+1,l⟩) (hW:Wnd B X (P++[p]) w R) (hX:∀ b,X b->b < w.heap.size) (hXp:¬ X p.1.1) (hb:Below w.heap.size w w1) (hB:B<=w.heap.size) (pb:p.1.1 < w.heap.size)
  (hnd:∀ q∈P,q.1≠p.1) (hlt:∀ q∈P,q.1.1 < w.heap.size) (hc0:∃ v,w.cell? (pdA p)=some v) (hu:RowG w1 w.heap.size 11 l.length (rHf d okO wO) l) (hG:w.heap.size < w1.heap.size) (hm:l.length<=maxLen) :
  Wnd B X (P++kidC w.heap.size d 0 l) (w1.setCell (pdA p) (.slice (some ⟨w.heap.size,0,none⟩) l.length l.length)) R:=by
 intro w' hA hr
 obtain ⟨u,hu'⟩:∃ u,Value.slice (some ⟨w.heap.size,0,none⟩) l.length l.length=u:=⟨_,rfl⟩
 rw [hu'] at hA
 have hs2:(w1.setCell (pdA p) u).heap.size=w1.heap.size:=by simp
 have hsw:=hb.size
 have hA1:=hA.size
 rw [hs2] at hA1
 have hkb:∀ q∈kidC w.heap.size d 0 l,q.1.1=w.heap.size:=fun q hq=>by
  obtain ⟨j,hj,rfl⟩:=kid_mem hq
  rfl
 have nofar:∀ b o,b < w.heap.size->¬ X b->(∀ q∈P++[p],q.1≠(b,o))->w'.cell? ⟨b,o,none⟩=w.cell? ⟨b,o,none⟩:=fun b o hl hn hq=>by
  have h1:=hA.cell b o (by rw [hs2];omega) hn (fun q hq'=>by
   rcases List.mem_append.1 hq' with h|h
   ·exact hq q (List.mem_append_left _ h)
   ·intro e
    have:=hkb q h
    rw [e] at this
    have:b=w.heap.size:=this
    omega)
  rw [h1]
  have hne:p.1≠(b,o):=hq p (List.mem_append_right _ List.mem_cons_self)
  have h2:(w1.setCell (pdA p) u).cell? ⟨b,o,none⟩=w1.cell? ⟨b,o,none⟩:=World.cell?_setCell_other w1 (pdA p) ⟨b,o,none⟩ u (fun e=>hne (by
   unfold pdA at e
   simp only [Addr.mk.injEq,and_true] at e
   exact Prod.ext e.1 e.2))
  rw [h2]
  exact hb.cell (p:=⟨b,o,none⟩) hl
 refine hW w' ⟨by omega,fun b hl hn hq=>?_,nofar,fun b o hl hn=>((hA.fz b o (by rw [hs2];omega) hn).trans (World.frozen?_setCell _ _ _ _)).trans (hb.frozen (p:=⟨b,o,none⟩) hl)⟩ (fun q hq=>?_)
 ·have h1:=hA.block b (by rw [hs2];omega) hn (fun q hq'=>by
   rcases List.mem_append.1 hq' with h|h
   ·exact hq q (List.mem_append_left _ h)
   ·rw [hkb q h];omega)
  rw [h1,Below.heap_setCell _ _ _ _ (fun e=>hq p (List.mem_append_right _ List.mem_cons_self) e.symm)]
  exact hb.block b hl
 ·rcases List.mem_append.1 hq with h|h
  ·exact hr q (List.mem_append_left _ h)
  ·have:q=p:=by simpa using h
   subst this
   have hcell:w'.cell? (pdA q)=some u:=by
    have h1:=hA.cell q.1.1 q.1.2 (by rw [hs2];omega) hXp (fun q' hq'=>by
     rcases List.mem_append.1 hq' with h|h
     ·exact fun e=>hnd q' h e
     ·intro e
      have:=hkb q' h
      rw [e] at this
      have:q.1.1=w.heap.size:=this
      omega)
    show w'.cell? ⟨q.1.1,q.1.2,none⟩=_
    rw [h1]
    obtain ⟨v,hv⟩:=hc0
    exact cell_same4 ((hb.cell (p:=pdA q) pb).trans hv)
   refine ⟨u,hcell,?_⟩
   rw [hp]
   subst hu'
   refine ⟨some ⟨w.heap.size,0,none⟩,l.length,by rw [List.length_map],by rw [List.length_map];exact Nat.le_refl _,hm,fun i hi=>?_⟩
   have hil:i < l.length:=by simpa using hi
   obtain ⟨cs,hk,⟨so,si,rfl,hso,hsi⟩,hcs⟩:=hu.2.1 i hil
   have hkid:=hr _ (List.mem_append_right _ (kid_of (G:=w.heap.size) (i:=0) i hil))
   obtain ⟨v,hv1,hv2⟩:=hkid
   refine ⟨w.heap.size,0,hdV (stH l[i].1) so v,rfl,⟨hB,fun j=>((hA.fz w.heap.size j (by rw [hs2];exact hG) (fun q=>by have:=hX _ q;omega)).trans (World.frozen?_setCell _ _ _ _)).trans (hu.2.2 j)⟩,by omega,rfl,?_,fun j x hx=>?_⟩
   ·have e1:(l.map (stS (d+1)))[i]=stS (d+1) l[i]:=by simp
    rw [e1]
    refine ⟨so,v,rfl,?_,hv2⟩
    refine hso.stay kp_on (fun b hb'' hl=>hb''.to (by have:=hb''.1;omega) ?_)
    have hb':=hb''.1
    have h1:=hA.block b (by rw [hs2];exact hl) (fun q=>by have:=hX b q;omega) (fun q' hq'=>by
     rcases List.mem_append.1 hq' with h|h
     ·have:=hlt q' h;omega
     ·rw [hkb q' h];omega)
    rw [h1]
    exact Below.heap_setCell _ _ _ _ (fun e=>by have e2:b=q.1.1:=e;omega)
   ·rw [Nat.zero_add]
    by_cases hj:j=10
    ·subst hj
     have:x=v:=by
      have:(hdV (stH l[i].1) so v)[10]?=some v:=rfl
      rw [this] at hx
      exact (Option.some.inj hx).symm
     subst this
     rw [Nat.zero_add] at hv1
     exact hv1
    ·have hj11:j < 11:=(List.getElem?_eq_some_iff.1 hx).1
     have hx':(hdV (stH l[i].1) so si)[j]?=some x:=by
      rw [<- hx]
      match j,hj11,hj with
      | 0,_,_=>rfl
      | 1,_,_=>rfl
      | 2,_,_=>rfl
      | 3,_,_=>rfl
      | 4,_,_=>rfl
      | 5,_,_=>rfl
      | 6,_,_=>rfl
      | 7,_,_=>rfl
      | 8,_,_=>rfl
      | 9,_,_=>rfl
      | 10,_,h=>exact absurd rfl h
     have h1:=hA.cell w.heap.size (i*11+j) (by rw [hs2];exact hG) (fun q=>by have:=hX _ q;omega) (fun q' hq'=>by
      rcases List.mem_append.1 hq' with h|h
      ·intro e;have:=hlt q' h;rw [e] at this;exact absurd this (by simp)
      ·obtain ⟨j',hj',rfl⟩:=kid_mem h
       intro e
       have:(0+j')*11+10=i*11+j:=congrArg Prod.snd e
       omega)
     rw [h1,World.cell?_setCell_far _ _ _ _ (by show q.1.1≠w.heap.size;omega)]
     exact hcs j x hx'
def szL:(d:Nat)->List (St d)->Nat
 | 0,_=>1
 | d+1,l=>(l.map (fun t=>szL d t.2)).sum+1
def szF (p:Pd):Nat:=szL p.2.1 p.2.2
theorem szL_pos:∀ (d:Nat) (l:List (St d)),1<=szL d l
 | 0,_=>Nat.le_refl _
 | d+1,l=>by
  show 1<=(l.map (fun t=>szL d t.2)).sum+1
  omega
theorem kid_sz {G:Nat}:∀ (i d:Nat) (l:List (St (d+1))),((kidC G d i l).map szF).sum+1=szL (d+1) l
 | i,d,[]=>rfl
 | i,d,t :: l=>by
  have:=kid_sz (G:=G) (i+1) d l
  have e1:szL (d+1) l=(l.map (fun t=>szL d t.2)).sum+1:=rfl
  have e2:szL (d+1) (t :: l)=(szL d t.2+(l.map (fun t=>szL d t.2)).sum)+1:=rfl
  have e3:((kidC G d i (t :: l)).map szF).sum=szL d t.2+((kidC G d (i+1) l).map szF).sum:=rfl
  omega
def StOk:(d:Nat)->St d->Prop
 | 0,t=>Empty.elim t
 | d+1,t=>HdOk t.1/\t.2.length<=100000/\∀ x∈t.2,StOk d x
def FoOk (x:Fo):Prop:=x.2.length<=100000/\∀ t∈x.2,StOk x.1 t
def POk (N:Nat) (X:Nat->Prop) (w:World) (p:Pd):Prop:=
 N<=p.1.1/\p.1.1 < w.heap.size/\w.frozen? (pdA p)=false/\¬ X p.1.1/\FoOk p.2/\∃ u,w.cell? (pdA p)=some u/\RdK (fun b=>b < N) w 11 (rSt p.2.1 (fun b=>b < N) w) p.2.2 u
structure PInv (N:Nat) (R:World->Prop) (X:Nat->Prop) (w:World) (v:Value) (P:List Pd):Prop where
 row:w.ownsRow N 184 1 v P.length (P.map pdV)
 ok:∀ p∈P,POk N X w p
 nd:P.Pairwise (fun a b=>a.1≠b.1)
 wnd:Wnd (N+2) X P w R
 x1:∀ b,X b->b < w.heap.size/\N<=b
 x2:∀ g,v.ownBlock=some g->X g
 big:N+2<=w.heap.size
theorem rowV_pop {w:World}{base e:Nat}{v:Value}{xs:List Value}{x:Value}{n:Nat}(hn:n=xs.length) (h:w.ownsRow base e 1 v (n+1) (xs++[x])):∃ g cap,v=.slice (some ⟨g,0,none⟩) (n+1) cap/\n+1<=cap/\cap<=maxLen/\base<=g/\g < w.heap.size/\
  w.cell? ⟨g,n,none⟩=some x/\w.ownsRow base e 1 (.slice (some ⟨g,0,none⟩) n cap) n xs:=by
 subst hn
 have hc:=fun g=>World.ownsRow.cells h (g:=g)
 rcases h.2 with ⟨_,h2⟩|⟨g,cap,cur,rfl,hb,hg,hnc,hcm,hcs,htake⟩
 ·omega
 ·have h1:=hc g rfl xs.length x (by simp)
  rw [show (⟨g,0,none⟩:Addr).add xs.length=⟨g,xs.length,none⟩ by unfold Addr.add;split<;>simp_all] at h1
  refine ⟨g,cap,rfl,hnc,hcm,hb,(Array.getElem?_eq_some_iff.1 hg).1,h1,by simp,.inr ⟨g,cap,cur,rfl,hb,hg,by omega,hcm,hcs,?_⟩⟩
  have h3:=congrArg (List.take xs.length) htake
  rw [List.take_take] at h3
  simp only [Nat.mul_one] at h3 ⊢
  rw [Nat.min_eq_left (by omega),List.take_left' (by simp)] at h3
  exact h3
theorem rowV_nil {w:World}{base e:Nat}{v:Value}(h:w.ownsRow base e 1 v 0 []):∃ a cap,v=.slice a 0 cap:=by
 rcases h.2 with ⟨h1,_⟩|⟨g,cap,cur,rfl,_⟩
 ·exact ⟨_,_,h1⟩
 ·exact ⟨_,_,rfl⟩
theorem PInv.deep {N:Nat}{R:World->Prop}{X:Nat->Prop}{w:World}{v:Value}{P:List Pd}{p:Pd}(h:PInv N R X w v (P++[p])):∃ (d:Nat) (l:List (St (d+1))),PInv N R X w v (P++[(p.1,⟨d+1,l⟩)])/\szF p=szL (d+1) l:=by
 obtain ⟨a,d,l⟩:=p
 cases d with
 | succ d=>exact ⟨d,l,h,rfl⟩
 | zero=>
  cases l with
  | cons x _=>exact Empty.elim x
  | nil=>
   refine ⟨0,[],⟨?_,fun q hq=>?_,?_,h.wnd.zero,h.x1,h.x2,h.big⟩,rfl⟩
   ·have:=h.row
    rw [List.map_append,List.length_append] at this ⊢
    exact this
   ·rcases List.mem_append.1 hq with hq|hq
    ·exact h.ok q (List.mem_append_left _ hq)
    ·have e:q=(a,(⟨1,[]⟩:Fo)):=by simpa using hq
     subst e
     obtain ⟨h1,h2,h3,h4,h5,u,h6,a1,cap,h7,h8,h9,_⟩:=h.ok (a,(⟨0,[]⟩:Fo)) (List.mem_append_right _ List.mem_cons_self)
     exact ⟨h1,h2,h3,h4,⟨by simp,fun t ht=>by cases ht⟩,u,h6,a1,cap,h7,h8,h9,fun i hi=>absurd hi (by simp)⟩
   ·have:=h.nd
    rw [List.pairwise_append] at this ⊢
    refine ⟨this.1,List.pairwise_singleton _ _,fun x hx y hy=>?_⟩
    have e:y=(a,(⟨1,[]⟩:Fo)):=by simpa using hy
    subst e
    exact this.2.2 x hx (a,(⟨0,[]⟩:Fo)) List.mem_cons_self
theorem szF_len:∀ P:List Pd,P.length<=(P.map szF).sum
 | []=>by simp
 | p :: P=>by
  have:=szF_len P
  have:=szL_pos p.2.1 p.2.2
  show P.length+1<=szL p.2.1 p.2.2+(P.map szF).sum
  omega
theorem kid_pair {G d:Nat}:∀ (i:Nat) (l:List (St (d+1))),(kidC G d i l).Pairwise (fun a b=>a.1≠b.1)
 | i,[]=>List.Pairwise.nil
 | i,t :: l=>by
  refine List.Pairwise.cons (fun q hq=>?_) (kid_pair (i+1) l)
  obtain ⟨j,hj,rfl⟩:=kid_mem hq
  intro e
  have:i*11+10=(i+1+j)*11+10:=congrArg Prod.snd e
  omega
theorem PInv.step {N:Nat}{R:World->Prop}{X:Nat->Prop}{w w1 w2:World}{v v2:Value}{P:List Pd}{a:Nat × Nat}{d:Nat}{l:List (St (d+1))}{g:Nat}(h:PInv N R X w v (P++[(a,⟨d+1,l⟩)])) (hb:Below w.heap.size w w1) (hu:RowG w1 w.heap.size 11 l.length (rHf d (fun b=>b < N) w) l) (hG:w.heap.size < w1.heap.size) (hv:v.ownBlock=some g)
  (hrow:w2.ownsRow N 184 1 v2 (P++kidC w.heap.size d 0 l).length ((P++kidC w.heap.size d 0 l).map pdV)) (hgr:(w1.setCell ⟨a.1,a.2,none⟩ (.slice (some ⟨w.heap.size,0,none⟩) l.length l.length)).grownBy w2 (some g)) (hl2:∀ g',v2.ownBlock=some g'->g=g'∨w1.heap.size<=g') (hl3:∀ g',v2.ownBlock=some g'->g' < w2.heap.size) :
  PInv N R (fun b=>X b∨v2.ownBlock=some b) w2 v2 (P++kidC w.heap.size d 0 l):=by
 have hN:=h.big
 obtain ⟨U,hU⟩:∃ U,Value.slice (some ⟨w.heap.size,0,none⟩) l.length l.length=U:=⟨_,rfl⟩
 rw [hU] at hgr
 have hs1:(w1.setCell ⟨a.1,a.2,none⟩ U).heap.size=w1.heap.size:=by simp
 have hXg:=h.x2 g hv
 obtain ⟨g1,g2⟩:=h.x1 g hXg
 have hpo:=h.ok (a,⟨d+1,l⟩) (List.mem_append_right _ List.mem_cons_self)
 obtain ⟨p1,p2,p3,p4,p5,u0,p6,p7⟩:=hpo
 have p1:N<=a.1:=p1
 have p2:a.1 < w.heap.size:=p2
 have p4:¬ X a.1:=p4
 have hag:a.1≠g:=fun e=>p4 (e ▸ hXg)
 have hsw:=hb.size
 have hgs:=hgr.size
 rw [hs1] at hgs
 have far:∀ b,b < w1.heap.size->b≠g->w2.heap[b]?=(w1.setCell ⟨a.1,a.2,none⟩ U).heap[b]?:=fun b hl hn=>hgr.block b (by rw [hs1];exact hl) (fun e=>hn (Option.some.inj e))
 have far2:∀ b,b < w1.heap.size->b≠g->b≠a.1->w2.heap[b]?=w1.heap[b]?:=fun b hl hn hn2=>(far b hl hn).trans (Below.heap_setCell _ _ _ _ (fun e=>hn2 e))
 have far3:∀ b,b < w.heap.size->b≠g->b≠a.1->w2.heap[b]?=w.heap[b]?:=fun b hl hn hn2=>(far2 b (by omega) hn hn2).trans (hb.block b hl)
 have low:∀ b,b < N->b < w.heap.size->b < N/\w2.heap[b]?=w.heap[b]?:=fun b hbN hl=>⟨hbN,far3 b hl (by omega) (by omega)⟩
 have hnd:=List.pairwise_append.1 h.nd
 have hne:∀ q∈P,q.1≠a:=fun q hq=>hnd.2.2 q hq (a,⟨d+1,l⟩) List.mem_cons_self
 have nX:∀ b,b < w1.heap.size->¬ X b->¬ (X b∨v2.ownBlock=some b):=fun b hl hn q=>by
  rcases q with q|q
  ·exact hn q
  ·rcases hl2 b q with e|e
   ·exact hn (e ▸ hXg)
   ·omega
 refine ⟨hrow,fun q hq=>?_,?_,?_,fun b q=>?_,fun g' hg'=>.inr hg',by omega⟩
 ·rcases List.mem_append.1 hq with hq|hq
  ·obtain ⟨q1,q2,q3,q4,q5,u,q6,q7⟩:=h.ok q (List.mem_append_left _ hq)
   have hqg:q.1.1≠g:=fun e=>q4 (e ▸ hXg)
   have hblk:=far q.1.1 (by omega) hqg
   have hne2:(⟨a.1,a.2,none⟩:Addr)≠pdA q:=fun e=>hne q hq (by
    unfold pdA at e
    simp only [Addr.mk.injEq,and_true] at e
    exact Prod.ext e.1.symm e.2.symm)
   refine ⟨q1,by omega,?_,nX _ (by omega) q4,q5,u,?_,q7.stay (kp_st _) low⟩
   ·rw [show pdA q=⟨q.1.1,q.1.2,none⟩ from rfl] at q3 ⊢
    rw [frozen_of_block hblk,World.frozen?_setCell,hb.frozen (p:=⟨q.1.1,q.1.2,none⟩) q2]
    exact q3
   ·rw [World.cell?_of_block (w:=w1.setCell ⟨a.1,a.2,none⟩ U) (a:=pdA q) hblk,World.cell?_setCell_other w1 _ _ U hne2,hb.cell (p:=pdA q) q2]
    exact q6
  ·obtain ⟨j,hj,rfl⟩:=kid_mem hq
   obtain ⟨cs,hk,⟨so,si,rfl,hso,hsi⟩,hcs⟩:=hu.2.1 j hj
   have hGg:w.heap.size≠g:=by omega
   have hblk:=far2 w.heap.size hG hGg (by omega)
   have hc10:=hcs 10 si rfl
   have hfr:=(hu.1 (j*11+10) (mul_in hj (by omega))).2
   refine ⟨by show N<=w.heap.size;omega,by show w.heap.size < _;omega,?_,nX _ hG (fun q=>absurd (show w.heap.size < w.heap.size from (h.x1 _ q).1) (Nat.lt_irrefl _)),⟨(p5.2 _ (List.getElem_mem hj)).2.1,(p5.2 _ (List.getElem_mem hj)).2.2⟩,si,?_,hsi.stay (kp_st d) low⟩
   ·show w2.frozen? ⟨w.heap.size,(0+j)*11+10,none⟩=false
    rw [Nat.zero_add,frozen_of_block hblk]
    exact hfr
   ·show w2.cell? ⟨w.heap.size,(0+j)*11+10,none⟩=some si
    rw [Nat.zero_add,World.cell?_of_block (w:=w1) (a:=⟨w.heap.size,j*11+10,none⟩) hblk]
    exact hc10
 ·rw [List.pairwise_append]
  refine ⟨hnd.1,kid_pair 0 l,fun q hq k hk=>?_⟩
  obtain ⟨j,hj,rfl⟩:=kid_mem hk
  intro e
  have h1:=(h.ok q (List.mem_append_left _ hq)).2.1
  rw [e] at h1
  exact absurd h1 (by simp)
 ·have hst:=Wnd.step (p:=(a,⟨d+1,l⟩)) rfl h.wnd (fun b q=>(h.x1 b q).1) p4 hb hN p2 (fun q hq=>hne q hq) (fun q hq=>(h.ok q (List.mem_append_left _ hq)).2.1) ⟨u0,p6⟩ hu hG (by unfold maxLen;have:=p5.1;simp only at this;omega)
  rw [hU] at hst
  refine hst.move (by show (w1.setCell ⟨a.1,a.2,none⟩ U).heap.size<=_;rw [hs1];exact hgs) (fun b q=>?_) (fun b hl hn=>?_)
  ·rcases q with q|q
   ·exact .inl q
   ·rcases hl2 b q with e|e
    ·exact .inl (e ▸ hXg)
    ·right
     show (w1.setCell ⟨a.1,a.2,none⟩ U).heap.size<=b
     rw [hs1];exact e
  ·have hl':b < w1.heap.size:=by
    have:b < (w1.setCell ⟨a.1,a.2,none⟩ U).heap.size:=hl
    rw [hs1] at this;exact this
   exact far b hl' (fun e=>hn (e ▸ hXg))
 ·rcases q with q|q
  ·have:=h.x1 b q
   exact ⟨by omega,this.2⟩
  ·refine ⟨hl3 b q,?_⟩
   rcases hl2 b q with e|e
   ·omega
   ·omega
