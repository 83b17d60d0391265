import Derived.Test.YtfjdceknbdmhpaaGreatDoorWxc13
import Derived.Test.YtfjdceknbdmhpaaGreatDoorWxc08
import Derived.Test.YtfjdceknbdmhpaaGreatDoorWxc09
import Derived.Test.YtfjdceknbdmhpaaGreatDoorWxc10
import Derived.Deep.LoopGhost
import Derived.Test.YtfjdceknbdmhpaaGreatDoorWxc07
import Derived.Test.YtfjdceknbdmhpaaGreatDoorWxc06
import Derived.Deep.DeepCutAuto
import Derived.Deep.RegionHeldLaw
import Derived.Test.YtfjdceknbdmhpaaGreatDoorWxc03
import Derived.BigRegion
set_option maxRecDepth 100000
set_option maxHeartbeats 32000000
namespace Go.Proofs.YtfjdceknbdmhpaaGreatDoor
open Go.RowKit Go.Lib
set_option linter.unusedSimpArgs false
set_option linter.unusedVariables false
attribute [local go_sem ↓] Go.wp_at_zero Go.wp_at_succ
theorem sameG {o:OnC}(h:OnOk o) (w:World):Calls Tryz.prog 130 #[gdV o.2.1,gdV o.2.1] w fun e w'=>e=.returned (.bool true)/\Below w.heap.size w w':=by
 unfold gdV
 split
 ·next hb=>exact sameX (h.2.2.1 hb) w
 ·exact sameX exOk_no w
theorem son2_nil (ev tg:ByteArray) (ol oc:Int) (s1 t1:Option Addr) (ns s3 t3:Nat) (w:World) (hs:∀ w1,Below w.heap.size w w1->Calls Tryz.prog 130 #[.nilIface,.nilIface] w1 fun e w'=>e=.returned (.bool true)/\Below w1.heap.size w1 w') (hq:∀ w1,Below w.heap.size w w1->Calls Tryz.prog 131 #[.slice s1 ns s3,.slice t1 ns t3,.func (.func 132) #[] #[]] w1 fun e w'=>e=.returned (.bool true)/\Below w1.heap.size w1 w'):Calls Tryz.prog 72 #[.agg #[.string ev,.nilIface,.string tg,.slice s1 ns s3,.int .i64 ol,.int .i64 oc],.agg #[.string ev,.nilIface,.string tg,.slice t1 ns t3,.int .i64 ol,.int .i64 oc]] w fun e w'=>e=.returned (.bool true)/\Below w.heap.size w w':=by
 have hal:Below w.heap.size w ((w.alloc (.cells #[.string ev,.nilIface,.string tg,.slice s1 ns s3,.int .i64 ol,.int .i64 oc] 133)).alloc (.cells #[.string ev,.nilIface,.string tg,.slice t1 ns t3,.int .i64 ol,.int .i64 oc] 133)):=((Below.refl w.heap.size w).alloc Nat.le.refl _).alloc (by simp) _
 have hX:Bn ((w.alloc (.cells #[.string ev,.nilIface,.string tg,.slice s1 ns s3,.int .i64 ol,.int .i64 oc] 133)).alloc (.cells #[.string ev,.nilIface,.string tg,.slice t1 ns t3,.int .i64 ol,.int .i64 oc] 133)) w.heap.size [.string ev,.nilIface,.string tg,.slice s1 ns s3,.int .i64 ol,.int .i64 oc]:=(Bn.new w [.string ev,.nilIface,.string tg,.slice s1 ns s3,.int .i64 ol,.int .i64 oc] 133 _ rfl).on ((Below.refl _ _).alloc Nat.le.refl _)
 have hY:Bn ((w.alloc (.cells #[.string ev,.nilIface,.string tg,.slice s1 ns s3,.int .i64 ol,.int .i64 oc] 133)).alloc (.cells #[.string ev,.nilIface,.string tg,.slice t1 ns t3,.int .i64 ol,.int .i64 oc] 133)) (w.heap.size+1) [.string ev,.nilIface,.string tg,.slice t1 ns t3,.int .i64 ol,.int .i64 oc]:=Bn.new (w.alloc (.cells #[.string ev,.nilIface,.string tg,.slice s1 ns s3,.int .i64 ol,.int .i64 oc] 133)) [.string ev,.nilIface,.string tg,.slice t1 ns t3,.int .i64 ol,.int .i64 oc] 133 _ (by simp)
 go_enter Tryz.func72,Tryz.ntmps72
 go_upto_region 1 with fail
 generalize ((w.alloc (.cells #[.string ev,.nilIface,.string tg,.slice s1 ns s3,.int .i64 ol,.int .i64 oc] 133)).alloc (.cells #[.string ev,.nilIface,.string tg,.slice t1 ns t3,.int .i64 ol,.int .i64 oc] 133))=wx at *
 have hB:Below wx.heap.size wx wx:=Below.refl _ _
 have x0:=(hX 0 _ rfl).1
 have y0:=(hY 0 _ rfl).1
 have x1:=(hX 1 _ rfl).1
 have y1:=(hY 1 _ rfl).1
 have x2:=(hX 2 _ rfl).1
 have y2:=(hY 2 _ rfl).1
 have x3:=(hX 3 _ rfl).1
 have y3:=(hY 3 _ rfl).1
 have x4:=(hX 4 _ rfl).1
 have y4:=(hY 4 _ rfl).1
 have x5:=(hX 5 _ rfl).1
 have y5:=(hY 5 _ rfl).1
 go_wp2_with (first
  | (go_at_call 130;refine (hs _ (hal.trans (hB.mono hal.size))).mono ?_;rintro e w1 ⟨rfl,b1⟩;have hB:=Below.nx hB b1;obtain ⟨x3,_⟩:=(hX.on hB) 3 _ rfl;obtain ⟨y3,_⟩:=(hY.on hB) 3 _ rfl)
  | (go_at_call 131;refine (hq _ (hal.trans (hB.mono hal.size))).mono ?_;rintro e w1 ⟨rfl,b1⟩;have hB:=Below.nx hB b1;skip)
  | fail)
 go_ret
 exact ⟨rfl,hal.trans (hB.mono hal.size)⟩
theorem son2_ifc (ev tg:ByteArray) (gu:TypeId) (gy:Value) (ol oc:Int) (s1 t1:Option Addr) (ns s3 t3:Nat) (w:World) (hs:∀ w1,Below w.heap.size w w1->Calls Tryz.prog 130 #[.iface gu gy,.iface gu gy] w1 fun e w'=>e=.returned (.bool true)/\Below w1.heap.size w1 w') (hq:∀ w1,Below w.heap.size w w1->Calls Tryz.prog 131 #[.slice s1 ns s3,.slice t1 ns t3,.func (.func 132) #[] #[]] w1 fun e w'=>e=.returned (.bool true)/\Below w1.heap.size w1 w'):Calls Tryz.prog 72 #[.agg #[.string ev,.iface gu gy,.string tg,.slice s1 ns s3,.int .i64 ol,.int .i64 oc],.agg #[.string ev,.iface gu gy,.string tg,.slice t1 ns t3,.int .i64 ol,.int .i64 oc]] w fun e w'=>e=.returned (.bool true)/\Below w.heap.size w w':=by
 have hal:Below w.heap.size w ((w.alloc (.cells #[.string ev,.iface gu gy,.string tg,.slice s1 ns s3,.int .i64 ol,.int .i64 oc] 133)).alloc (.cells #[.string ev,.iface gu gy,.string tg,.slice t1 ns t3,.int .i64 ol,.int .i64 oc] 133)):=((Below.refl w.heap.size w).alloc Nat.le.refl _).alloc (by simp) _
 have hX:Bn ((w.alloc (.cells #[.string ev,.iface gu gy,.string tg,.slice s1 ns s3,.int .i64 ol,.int .i64 oc] 133)).alloc (.cells #[.string ev,.iface gu gy,.string tg,.slice t1 ns t3,.int .i64 ol,.int .i64 oc] 133)) w.heap.size [.string ev,.iface gu gy,.string tg,.slice s1 ns s3,.int .i64 ol,.int .i64 oc]:=(Bn.new w [.string ev,.iface gu gy,.string tg,.slice s1 ns s3,.int .i64 ol,.int .i64 oc] 133 _ rfl).on ((Below.refl _ _).alloc Nat.le.refl _)
 have hY:Bn ((w.alloc (.cells #[.string ev,.iface gu gy,.string tg,.slice s1 ns s3,.int .i64 ol,.int .i64 oc] 133)).alloc (.cells #[.string ev,.iface gu gy,.string tg,.slice t1 ns t3,.int .i64 ol,.int .i64 oc] 133)) (w.heap.size+1) [.string ev,.iface gu gy,.string tg,.slice t1 ns t3,.int .i64 ol,.int .i64 oc]:=Bn.new (w.alloc (.cells #[.string ev,.iface gu gy,.string tg,.slice s1 ns s3,.int .i64 ol,.int .i64 oc] 133)) [.string ev,.iface gu gy,.string tg,.slice t1 ns t3,.int .i64 ol,.int .i64 oc] 133 _ (by simp)
 go_enter Tryz.func72,Tryz.ntmps72
 go_upto_region 1 with fail
 generalize ((w.alloc (.cells #[.string ev,.iface gu gy,.string tg,.slice s1 ns s3,.int .i64 ol,.int .i64 oc] 133)).alloc (.cells #[.string ev,.iface gu gy,.string tg,.slice t1 ns t3,.int .i64 ol,.int .i64 oc] 133))=wx at *
 have hB:Below wx.heap.size wx wx:=Below.refl _ _
 have x0:=(hX 0 _ rfl).1
 have y0:=(hY 0 _ rfl).1
 have x1:=(hX 1 _ rfl).1
 have y1:=(hY 1 _ rfl).1
 have x2:=(hX 2 _ rfl).1
 have y2:=(hY 2 _ rfl).1
 have x3:=(hX 3 _ rfl).1
 have y3:=(hY 3 _ rfl).1
 have x4:=(hX 4 _ rfl).1
 have y4:=(hY 4 _ rfl).1
 have x5:=(hX 5 _ rfl).1
 have y5:=(hY 5 _ rfl).1
 go_wp2_with (first
  | (go_at_call 130;refine (hs _ (hal.trans (hB.mono hal.size))).mono ?_;rintro e w1 ⟨rfl,b1⟩;have hB:=Below.nx hB b1;obtain ⟨x3,_⟩:=(hX.on hB) 3 _ rfl;obtain ⟨y3,_⟩:=(hY.on hB) 3 _ rfl)
  | (go_at_call 131;refine (hq _ (hal.trans (hB.mono hal.size))).mono ?_;rintro e w1 ⟨rfl,b1⟩;have hB:=Below.nx hB b1;skip)
  | fail)
 go_ret
 exact ⟨rfl,hal.trans (hB.mono hal.size)⟩
theorem eqfOn_any  {ok ok':Nat->Prop}{w:World}{l:List (OnC)}{v v':Value}(h:RdK ok w 6 (rOn ok w) l v) (h':RdK ok' w 6 (rOn ok' w) l v') (hok:∀ s∈l,OnOk s) :
  Calls Tryz.prog 71 #[v,v',.func (.func 72) #[] #[]] w fun e w'=>e=.returned (.bool true)/\Below w.heap.size w w':=by
 obtain ⟨a,cap,rfl,hlc,hcm⟩:=h.form
 obtain ⟨a',cap',rfl,hlc',hcm'⟩:=h'.form
 unfold maxLen at hcm hcm'
 have HC:=mkHid h
 have HC':=mkHid h'
 have HK:=mkHid hok
 obtain ⟨n,hn⟩:∃ n,l.length=n:=⟨_,rfl⟩
 rw [hn] at hlc hlc' ⊢
 have HN:Hid (l.length=n):=hn
 clear h h' hok hn
 go_enter Tryz.func71,Tryz.ntmps71
 go_wp2
 go_loopw [17] (fun ix wr=>∃ (i:Nat),i<=n/\ix=.int .i64 (i:Int)/\Below w.heap.size w wr) (fun ix _=>n - (RowKit.intOf ix).toNat)
 case atStart=>exact ⟨0,Nat.zero_le _,rfl,Below.refl _ _⟩
 case round=>
  obtain ⟨i,hi,rfl,hb⟩:=hrel
  by_cases hlt:i < n
  ·have hil:i < l.length:=by rw [HN.out];exact hlt
   obtain ⟨b,off,s1,s3,rfl,hbl,hSe,hc⟩:=onQ_at HC.out i hil
   obtain ⟨b',off',t1,t3,rfl,hbl',hSe',hc'⟩:=onQ_at HC'.out i hil
   have hko:=HK.out _ (List.getElem_mem hil)
   obtain ⟨o,ho⟩:∃ o,l[i]=o:=⟨_,rfl⟩
   rw [ho] at hSe hc hko hSe' hc'
   obtain ⟨ns,hns⟩:∃ m,o.2.2.2.1.length=m:=⟨_,rfl⟩
   rw [hns] at hSe hc hSe' hc'
   have hform:=gdV_form o.2.1
   have hsm:=sameG hko
   obtain ⟨gv,hgv⟩:∃ gv,gdV o.2.1=gv:=⟨_,rfl⟩
   obtain ⟨ev,tg,ol,oc,hov⟩:∃ ev tg ol oc,onV o=fun sl=>[.string ev,gdV o.2.1,.string tg,sl,.int .i64 ol,.int .i64 oc]:=⟨_,_,_,_,rfl⟩
   rw [hov] at hc hc'
   rw [hgv] at hform hsm hc hc'
   have HSE:=mkHid hSe
   have HSE':=mkHid hSe'
   have HKO:=mkHid hko
   clear ho hns hgv hov hSe hSe' hko
   have i1:(i:Int) < (n:Int):=by omega
   have i2:(0:Int)<=(i:Int):=by omega
   have C0:=(hb.cell (p:=⟨b,off+i*6+0,none⟩) hbl).trans (hc 0 _ rfl)
   have D0:=(hb.cell (p:=⟨b',off'+i*6+0,none⟩) hbl').trans (hc' 0 _ rfl)
   have C1:=(hb.cell (p:=⟨b,off+i*6+1,none⟩) hbl).trans (hc 1 _ rfl)
   have D1:=(hb.cell (p:=⟨b',off'+i*6+1,none⟩) hbl').trans (hc' 1 _ rfl)
   have C2:=(hb.cell (p:=⟨b,off+i*6+2,none⟩) hbl).trans (hc 2 _ rfl)
   have D2:=(hb.cell (p:=⟨b',off'+i*6+2,none⟩) hbl').trans (hc' 2 _ rfl)
   have C3:=(hb.cell (p:=⟨b,off+i*6+3,none⟩) hbl).trans (hc 3 _ rfl)
   have D3:=(hb.cell (p:=⟨b',off'+i*6+3,none⟩) hbl').trans (hc' 3 _ rfl)
   have C4:=(hb.cell (p:=⟨b,off+i*6+4,none⟩) hbl).trans (hc 4 _ rfl)
   have D4:=(hb.cell (p:=⟨b',off'+i*6+4,none⟩) hbl').trans (hc' 4 _ rfl)
   have C5:=(hb.cell (p:=⟨b,off+i*6+5,none⟩) hbl).trans (hc 5 _ rfl)
   have D5:=(hb.cell (p:=⟨b',off'+i*6+5,none⟩) hbl').trans (hc' 5 _ rfl)
   clear hc hc'
   rcases hform with rfl|⟨gu,gy,rfl⟩
   ·have hal:Below wr.heap.size wr ((wr.alloc (.cells #[.string ev,.nilIface,.string tg,.slice s1 ns s3,.int .i64 ol,.int .i64 oc] 133)).alloc (.cells #[.string ev,.nilIface,.string tg,.slice t1 ns t3,.int .i64 ol,.int .i64 oc] 133)):=((Below.refl _ _).alloc Nat.le.refl _).alloc (by simp) _
    have hX:Bn ((wr.alloc (.cells #[.string ev,.nilIface,.string tg,.slice s1 ns s3,.int .i64 ol,.int .i64 oc] 133)).alloc (.cells #[.string ev,.nilIface,.string tg,.slice t1 ns t3,.int .i64 ol,.int .i64 oc] 133)) wr.heap.size [.string ev,.nilIface,.string tg,.slice s1 ns s3,.int .i64 ol,.int .i64 oc]:=(Bn.new wr [.string ev,.nilIface,.string tg,.slice s1 ns s3,.int .i64 ol,.int .i64 oc] 133 _ rfl).on ((Below.refl _ _).alloc Nat.le.refl _)
    have hY:Bn ((wr.alloc (.cells #[.string ev,.nilIface,.string tg,.slice s1 ns s3,.int .i64 ol,.int .i64 oc] 133)).alloc (.cells #[.string ev,.nilIface,.string tg,.slice t1 ns t3,.int .i64 ol,.int .i64 oc] 133)) (wr.heap.size+1) [.string ev,.nilIface,.string tg,.slice t1 ns t3,.int .i64 ol,.int .i64 oc]:=Bn.new (wr.alloc (.cells #[.string ev,.nilIface,.string tg,.slice s1 ns s3,.int .i64 ol,.int .i64 oc] 133)) [.string ev,.nilIface,.string tg,.slice t1 ns t3,.int .i64 ol,.int .i64 oc] 133 _ (by simp)
    have hal1:=(Below.refl wr.heap.size wr).alloc Nat.le.refl (.cells #[.string ev,.nilIface,.string tg,.slice s1 ns s3,.int .i64 ol,.int .i64 oc] 133)
    have E0:=(hal1.cell (p:=⟨b',off'+i*6+0,none⟩) (Nat.lt_of_lt_of_le hbl' hb.size)).trans D0
    have E1:=(hal1.cell (p:=⟨b',off'+i*6+1,none⟩) (Nat.lt_of_lt_of_le hbl' hb.size)).trans D1
    have E2:=(hal1.cell (p:=⟨b',off'+i*6+2,none⟩) (Nat.lt_of_lt_of_le hbl' hb.size)).trans D2
    have E3:=(hal1.cell (p:=⟨b',off'+i*6+3,none⟩) (Nat.lt_of_lt_of_le hbl' hb.size)).trans D3
    have E4:=(hal1.cell (p:=⟨b',off'+i*6+4,none⟩) (Nat.lt_of_lt_of_le hbl' hb.size)).trans D4
    have E5:=(hal1.cell (p:=⟨b',off'+i*6+5,none⟩) (Nat.lt_of_lt_of_le hbl' hb.size)).trans D5
    rw [Nat.add_zero] at E0 C0
    have hbx:=hb.trans (hal.mono hb.size)
    have hcall:∀ w1,Below w.heap.size w w1->Calls Tryz.prog 72 #[.agg #[.string ev,.nilIface,.string tg,.slice s1 ns s3,.int .i64 ol,.int .i64 oc],.agg #[.string ev,.nilIface,.string tg,.slice t1 ns t3,.int .i64 ol,.int .i64 oc]] w1 fun e w'=>e=.returned (.bool true)/\Below w1.heap.size w1 w':=fun w1 b1=>son2_nil ev tg ol oc s1 t1 ns s3 t3 w1 (fun w2 _=>hsm w2) (fun w2 b2=>eqfSet_any (HSE.out.stay kp_set (ok':=ok) (fun b hb hl=>⟨hb,((b2.block b (Nat.lt_of_lt_of_le hl b1.size)).trans (b1.block b hl))⟩)) (HSE'.out.stay kp_set (ok':=ok') (fun b hb hl=>⟨hb,((b2.block b (Nat.lt_of_lt_of_le hl b1.size)).trans (b1.block b hl))⟩)) HKO.out.2.2.2.1)
    clear hsm
    go_upto_region 7 with fail
    clear C0 D0 E0 C1 D1 E1 C2 D2 E2 C3 D3 E3 C4 D4 E4 C5 D5 E5 hal1
    generalize ((wr.alloc (.cells #[.string ev,.nilIface,.string tg,.slice s1 ns s3,.int .i64 ol,.int .i64 oc] 133)).alloc (.cells #[.string ev,.nilIface,.string tg,.slice t1 ns t3,.int .i64 ol,.int .i64 oc] 133))=wx at *
    have x0:=(hX 0 _ rfl).1
    have y0:=(hY 0 _ rfl).1
    have x1:=(hX 1 _ rfl).1
    have y1:=(hY 1 _ rfl).1
    have x2:=(hX 2 _ rfl).1
    have y2:=(hY 2 _ rfl).1
    have x3:=(hX 3 _ rfl).1
    have y3:=(hY 3 _ rfl).1
    have x4:=(hX 4 _ rfl).1
    have y4:=(hY 4 _ rfl).1
    have x5:=(hX 5 _ rfl).1
    have y5:=(hY 5 _ rfl).1
    go_wp2_with (first
     | (go_at_call 72;refine (hcall _ hbx).mono ?_;rintro e w1 ⟨rfl,b1⟩)
     | fail)
    have hb2:=hbx.trans (b1.mono hbx.size)
    go_wp2
    go_roundw
    case rel=>exact ⟨i+1,hlt,by go_num,hb2⟩
    case measure=>simp [RowKit.intOf];omega
   ·have hal:Below wr.heap.size wr ((wr.alloc (.cells #[.string ev,.iface gu gy,.string tg,.slice s1 ns s3,.int .i64 ol,.int .i64 oc] 133)).alloc (.cells #[.string ev,.iface gu gy,.string tg,.slice t1 ns t3,.int .i64 ol,.int .i64 oc] 133)):=((Below.refl _ _).alloc Nat.le.refl _).alloc (by simp) _
    have hX:Bn ((wr.alloc (.cells #[.string ev,.iface gu gy,.string tg,.slice s1 ns s3,.int .i64 ol,.int .i64 oc] 133)).alloc (.cells #[.string ev,.iface gu gy,.string tg,.slice t1 ns t3,.int .i64 ol,.int .i64 oc] 133)) wr.heap.size [.string ev,.iface gu gy,.string tg,.slice s1 ns s3,.int .i64 ol,.int .i64 oc]:=(Bn.new wr [.string ev,.iface gu gy,.string tg,.slice s1 ns s3,.int .i64 ol,.int .i64 oc] 133 _ rfl).on ((Below.refl _ _).alloc Nat.le.refl _)
    have hY:Bn ((wr.alloc (.cells #[.string ev,.iface gu gy,.string tg,.slice s1 ns s3,.int .i64 ol,.int .i64 oc] 133)).alloc (.cells #[.string ev,.iface gu gy,.string tg,.slice t1 ns t3,.int .i64 ol,.int .i64 oc] 133)) (wr.heap.size+1) [.string ev,.iface gu gy,.string tg,.slice t1 ns t3,.int .i64 ol,.int .i64 oc]:=Bn.new (wr.alloc (.cells #[.string ev,.iface gu gy,.string tg,.slice s1 ns s3,.int .i64 ol,.int .i64 oc] 133)) [.string ev,.iface gu gy,.string tg,.slice t1 ns t3,.int .i64 ol,.int .i64 oc] 133 _ (by simp)
    have hal1:=(Below.refl wr.heap.size wr).alloc Nat.le.refl (.cells #[.string ev,.iface gu gy,.string tg,.slice s1 ns s3,.int .i64 ol,.int .i64 oc] 133)
    have E0:=(hal1.cell (p:=⟨b',off'+i*6+0,none⟩) (Nat.lt_of_lt_of_le hbl' hb.size)).trans D0
    have E1:=(hal1.cell (p:=⟨b',off'+i*6+1,none⟩) (Nat.lt_of_lt_of_le hbl' hb.size)).trans D1
    have E2:=(hal1.cell (p:=⟨b',off'+i*6+2,none⟩) (Nat.lt_of_lt_of_le hbl' hb.size)).trans D2
    have E3:=(hal1.cell (p:=⟨b',off'+i*6+3,none⟩) (Nat.lt_of_lt_of_le hbl' hb.size)).trans D3
    have E4:=(hal1.cell (p:=⟨b',off'+i*6+4,none⟩) (Nat.lt_of_lt_of_le hbl' hb.size)).trans D4
    have E5:=(hal1.cell (p:=⟨b',off'+i*6+5,none⟩) (Nat.lt_of_lt_of_le hbl' hb.size)).trans D5
    rw [Nat.add_zero] at E0 C0
    have hbx:=hb.trans (hal.mono hb.size)
    have hcall:∀ w1,Below w.heap.size w w1->Calls Tryz.prog 72 #[.agg #[.string ev,.iface gu gy,.string tg,.slice s1 ns s3,.int .i64 ol,.int .i64 oc],.agg #[.string ev,.iface gu gy,.string tg,.slice t1 ns t3,.int .i64 ol,.int .i64 oc]] w1 fun e w'=>e=.returned (.bool true)/\Below w1.heap.size w1 w':=fun w1 b1=>son2_ifc ev tg gu gy ol oc s1 t1 ns s3 t3 w1 (fun w2 _=>hsm w2) (fun w2 b2=>eqfSet_any (HSE.out.stay kp_set (ok':=ok) (fun b hb hl=>⟨hb,((b2.block b (Nat.lt_of_lt_of_le hl b1.size)).trans (b1.block b hl))⟩)) (HSE'.out.stay kp_set (ok':=ok') (fun b hb hl=>⟨hb,((b2.block b (Nat.lt_of_lt_of_le hl b1.size)).trans (b1.block b hl))⟩)) HKO.out.2.2.2.1)
    clear hsm
    go_upto_region 7 with fail
    clear C0 D0 E0 C1 D1 E1 C2 D2 E2 C3 D3 E3 C4 D4 E4 C5 D5 E5 hal1
    generalize ((wr.alloc (.cells #[.string ev,.iface gu gy,.string tg,.slice s1 ns s3,.int .i64 ol,.int .i64 oc] 133)).alloc (.cells #[.string ev,.iface gu gy,.string tg,.slice t1 ns t3,.int .i64 ol,.int .i64 oc] 133))=wx at *
    have x0:=(hX 0 _ rfl).1
    have y0:=(hY 0 _ rfl).1
    have x1:=(hX 1 _ rfl).1
    have y1:=(hY 1 _ rfl).1
    have x2:=(hX 2 _ rfl).1
    have y2:=(hY 2 _ rfl).1
    have x3:=(hX 3 _ rfl).1
    have y3:=(hY 3 _ rfl).1
    have x4:=(hX 4 _ rfl).1
    have y4:=(hY 4 _ rfl).1
    have x5:=(hX 5 _ rfl).1
    have y5:=(hY 5 _ rfl).1
    go_wp2_with (first
     | (go_at_call 72;refine (hcall _ hbx).mono ?_;rintro e w1 ⟨rfl,b1⟩)
     | fail)
    have hb2:=hbx.trans (b1.mono hbx.size)
    go_wp2
    go_roundw
    case rel=>exact ⟨i+1,hlt,by go_num,hb2⟩
    case measure=>simp [RowKit.intOf];omega
  ·have i1:¬ (i:Int) < (n:Int):=by omega
   go_wp2
   go_ret
   exact ⟨rfl,hb⟩
theorem salo2 (sn:ByteArray) (sl sc:Int) (sb se:Bool) (sd su:ByteArray) (sw sr:Int) (p1 q1:Option Addr) (m p3 q3:Nat) (p4:Option Addr) (ni p6:Nat) (q4:Option Addr) (nj q6:Nat) (w:World) (hq:∀ w1,Below w.heap.size w w1->Calls Tryz.prog 71 #[.slice p1 m p3,.slice q1 m q3,.func (.func 72) #[] #[]] w1 fun e w'=>e=.returned (.bool true)/\Below w1.heap.size w1 w'):Calls Tryz.prog 34 #[.agg #[.string sn,.int .i64 sl,.int .i64 sc,.bool sb,.bool se,.string sd,.string su,.int .i64 sw,.int .i64 sr,.slice p1 m p3,.slice p4 ni p6],.agg #[.string sn,.int .i64 sl,.int .i64 sc,.bool sb,.bool se,.string sd,.string su,.int .i64 sw,.int .i64 sr,.slice q1 m q3,.slice q4 nj q6]] w fun e w'=>e=.returned (.bool true)/\Below w.heap.size w w':=by
 have hal:Below w.heap.size w ((w.alloc (.cells #[.string sn,.int .i64 sl,.int .i64 sc,.bool sb,.bool se,.string sd,.string su,.int .i64 sw,.int .i64 sr,.slice p1 m p3,.slice p4 ni p6] 55)).alloc (.cells #[.string sn,.int .i64 sl,.int .i64 sc,.bool sb,.bool se,.string sd,.string su,.int .i64 sw,.int .i64 sr,.slice q1 m q3,.slice q4 nj q6] 55)):=((Below.refl w.heap.size w).alloc Nat.le.refl _).alloc (by simp) _
 have hX:Bn ((w.alloc (.cells #[.string sn,.int .i64 sl,.int .i64 sc,.bool sb,.bool se,.string sd,.string su,.int .i64 sw,.int .i64 sr,.slice p1 m p3,.slice p4 ni p6] 55)).alloc (.cells #[.string sn,.int .i64 sl,.int .i64 sc,.bool sb,.bool se,.string sd,.string su,.int .i64 sw,.int .i64 sr,.slice q1 m q3,.slice q4 nj q6] 55)) w.heap.size [.string sn,.int .i64 sl,.int .i64 sc,.bool sb,.bool se,.string sd,.string su,.int .i64 sw,.int .i64 sr,.slice p1 m p3,.slice p4 ni p6]:=(Bn.new w [.string sn,.int .i64 sl,.int .i64 sc,.bool sb,.bool se,.string sd,.string su,.int .i64 sw,.int .i64 sr,.slice p1 m p3,.slice p4 ni p6] 55 _ rfl).on ((Below.refl _ _).alloc Nat.le.refl _)
 have hY:Bn ((w.alloc (.cells #[.string sn,.int .i64 sl,.int .i64 sc,.bool sb,.bool se,.string sd,.string su,.int .i64 sw,.int .i64 sr,.slice p1 m p3,.slice p4 ni p6] 55)).alloc (.cells #[.string sn,.int .i64 sl,.int .i64 sc,.bool sb,.bool se,.string sd,.string su,.int .i64 sw,.int .i64 sr,.slice q1 m q3,.slice q4 nj q6] 55)) (w.heap.size+1) [.string sn,.int .i64 sl,.int .i64 sc,.bool sb,.bool se,.string sd,.string su,.int .i64 sw,.int .i64 sr,.slice q1 m q3,.slice q4 nj q6]:=Bn.new (w.alloc (.cells #[.string sn,.int .i64 sl,.int .i64 sc,.bool sb,.bool se,.string sd,.string su,.int .i64 sw,.int .i64 sr,.slice p1 m p3,.slice p4 ni p6] 55)) [.string sn,.int .i64 sl,.int .i64 sc,.bool sb,.bool se,.string sd,.string su,.int .i64 sw,.int .i64 sr,.slice q1 m q3,.slice q4 nj q6] 55 _ (by simp)
 go_enter Tryz.func34,Tryz.ntmps34
 go_upto_region 1 with fail
 generalize ((w.alloc (.cells #[.string sn,.int .i64 sl,.int .i64 sc,.bool sb,.bool se,.string sd,.string su,.int .i64 sw,.int .i64 sr,.slice p1 m p3,.slice p4 ni p6] 55)).alloc (.cells #[.string sn,.int .i64 sl,.int .i64 sc,.bool sb,.bool se,.string sd,.string su,.int .i64 sw,.int .i64 sr,.slice q1 m q3,.slice q4 nj q6] 55))=wx at *
 have hB:Below wx.heap.size wx wx:=Below.refl _ _
 have x0:=(hX 0 _ rfl).1
 have y0:=(hY 0 _ rfl).1
 have x1:=(hX 1 _ rfl).1
 have y1:=(hY 1 _ rfl).1
 have x2:=(hX 2 _ rfl).1
 have y2:=(hY 2 _ rfl).1
 have x3:=(hX 3 _ rfl).1
 have y3:=(hY 3 _ rfl).1
 have x4:=(hX 4 _ rfl).1
 have y4:=(hY 4 _ rfl).1
 have x5:=(hX 5 _ rfl).1
 have y5:=(hY 5 _ rfl).1
 have x6:=(hX 6 _ rfl).1
 have y6:=(hY 6 _ rfl).1
 have x7:=(hX 7 _ rfl).1
 have y7:=(hY 7 _ rfl).1
 have x8:=(hX 8 _ rfl).1
 have y8:=(hY 8 _ rfl).1
 have x9:=(hX 9 _ rfl).1
 have y9:=(hY 9 _ rfl).1
 have x10:=(hX 10 _ rfl).1
 have y10:=(hY 10 _ rfl).1
 go_wp2_with (first
  | (go_at_call 71;refine (hq _ (hal.trans (hB.mono hal.size))).mono ?_;rintro e w1 ⟨rfl,b1⟩;have hB:=Below.nx hB b1;skip)
  | fail)
 go_ret
 exact ⟨rfl,hal.trans (hB.mono hal.size)⟩
theorem eqfSt_any {d:Nat}{ok ok':Nat->Prop}{w:World}{l:List (St (d+1))}{v v':Value}(h:RdK ok w 11 (rSt (d+1) ok w) l v) (h':RdK ok' w 11 (rSt (d+1) ok' w) l v') (hok:∀ s∈l,HdOk s.1) :
  Calls Tryz.prog 33 #[v,v',.func (.func 34) #[] #[]] w fun e w'=>e=.returned (.bool true)/\Below w.heap.size w w':=by
 obtain ⟨a,cap,rfl,hlc,hcm⟩:=h.form
 obtain ⟨a',cap',rfl,hlc',hcm'⟩:=h'.form
 unfold maxLen at hcm hcm'
 have HC:=mkHid h
 have HC':=mkHid h'
 have HK:=mkHid hok
 obtain ⟨n,hn⟩:∃ n,l.length=n:=⟨_,rfl⟩
 rw [hn] at hlc hlc' ⊢
 have HN:Hid (l.length=n):=hn
 clear h h' hok hn
 go_enter Tryz.func33,Tryz.ntmps33
 go_wp2
 go_loopw [17] (fun ix wr=>∃ (i:Nat),i<=n/\ix=.int .i64 (i:Int)/\Below w.heap.size w wr) (fun ix _=>n - (RowKit.intOf ix).toNat)
 case atStart=>exact ⟨0,Nat.zero_le _,rfl,Below.refl _ _⟩
 case round=>
  obtain ⟨i,hi,rfl,hb⟩:=hrel
  by_cases hlt:i < n
  ·have hil:i < l.length:=by rw [HN.out];exact hlt
   obtain ⟨b,off,p1,p3,p4,p6,rfl,hbl,hOn,hIn,hc⟩:=stQ_at HC.out i hil
   obtain ⟨b',off',q1,q3,q4,q6,rfl,hbl',hOn',hIn',hc'⟩:=stQ_at HC'.out i hil
   have hko:=HK.out _ (List.getElem_mem hil)
   obtain ⟨t,ht⟩:∃ t,l[i]=t:=⟨_,rfl⟩
   rw [ht] at hOn hIn hc hko hOn' hIn' hc'
   obtain ⟨m,hm⟩:∃ m,t.1.2.2.2.2.length=m:=⟨_,rfl⟩
   obtain ⟨ni,hni⟩:∃ m,t.2.length=m:=⟨_,rfl⟩
   rw [hm] at hOn hc hOn' hc'
   rw [hni] at hIn hc hIn' hc'
   obtain ⟨sn,sl,sc,sb,se,sd,su,sw,sr,hsv⟩:∃ sn sl sc sb se sd su sw sr,hdV t.1=fun so si=>[.string sn,.int .i64 sl,.int .i64 sc,.bool sb,.bool se,.string sd,.string su,.int .i64 sw,.int .i64 sr,so,si]:=⟨_,_,_,_,_,_,_,_,_,rfl⟩
   rw [hsv] at hc hc'
   have HON:=mkHid hOn
   have HON':=mkHid hOn'
   have HKO:=mkHid hko
   clear ht hm hni hsv hOn hIn hOn' hIn' hko
   have i1:(i:Int) < (n:Int):=by omega
   have i2:(0:Int)<=(i:Int):=by omega
   have C0:=(hb.cell (p:=⟨b,off+i*11+0,none⟩) hbl).trans (hc 0 _ rfl)
   have D0:=(hb.cell (p:=⟨b',off'+i*11+0,none⟩) hbl').trans (hc' 0 _ rfl)
   have C1:=(hb.cell (p:=⟨b,off+i*11+1,none⟩) hbl).trans (hc 1 _ rfl)
   have D1:=(hb.cell (p:=⟨b',off'+i*11+1,none⟩) hbl').trans (hc' 1 _ rfl)
   have C2:=(hb.cell (p:=⟨b,off+i*11+2,none⟩) hbl).trans (hc 2 _ rfl)
   have D2:=(hb.cell (p:=⟨b',off'+i*11+2,none⟩) hbl').trans (hc' 2 _ rfl)
   have C3:=(hb.cell (p:=⟨b,off+i*11+3,none⟩) hbl).trans (hc 3 _ rfl)
   have D3:=(hb.cell (p:=⟨b',off'+i*11+3,none⟩) hbl').trans (hc' 3 _ rfl)
   have C4:=(hb.cell (p:=⟨b,off+i*11+4,none⟩) hbl).trans (hc 4 _ rfl)
   have D4:=(hb.cell (p:=⟨b',off'+i*11+4,none⟩) hbl').trans (hc' 4 _ rfl)
   have C5:=(hb.cell (p:=⟨b,off+i*11+5,none⟩) hbl).trans (hc 5 _ rfl)
   have D5:=(hb.cell (p:=⟨b',off'+i*11+5,none⟩) hbl').trans (hc' 5 _ rfl)
   have C6:=(hb.cell (p:=⟨b,off+i*11+6,none⟩) hbl).trans (hc 6 _ rfl)
   have D6:=(hb.cell (p:=⟨b',off'+i*11+6,none⟩) hbl').trans (hc' 6 _ rfl)
   have C7:=(hb.cell (p:=⟨b,off+i*11+7,none⟩) hbl).trans (hc 7 _ rfl)
   have D7:=(hb.cell (p:=⟨b',off'+i*11+7,none⟩) hbl').trans (hc' 7 _ rfl)
   have C8:=(hb.cell (p:=⟨b,off+i*11+8,none⟩) hbl).trans (hc 8 _ rfl)
   have D8:=(hb.cell (p:=⟨b',off'+i*11+8,none⟩) hbl').trans (hc' 8 _ rfl)
   have C9:=(hb.cell (p:=⟨b,off+i*11+9,none⟩) hbl).trans (hc 9 _ rfl)
   have D9:=(hb.cell (p:=⟨b',off'+i*11+9,none⟩) hbl').trans (hc' 9 _ rfl)
   have C10:=(hb.cell (p:=⟨b,off+i*11+10,none⟩) hbl).trans (hc 10 _ rfl)
   have D10:=(hb.cell (p:=⟨b',off'+i*11+10,none⟩) hbl').trans (hc' 10 _ rfl)
   clear hc hc'
   have hal:Below wr.heap.size wr ((wr.alloc (.cells #[.string sn,.int .i64 sl,.int .i64 sc,.bool sb,.bool se,.string sd,.string su,.int .i64 sw,.int .i64 sr,.slice p1 m p3,.slice p4 ni p6] 55)).alloc (.cells #[.string sn,.int .i64 sl,.int .i64 sc,.bool sb,.bool se,.string sd,.string su,.int .i64 sw,.int .i64 sr,.slice q1 m q3,.slice q4 ni q6] 55)):=((Below.refl _ _).alloc Nat.le.refl _).alloc (by simp) _
   have hX:Bn ((wr.alloc (.cells #[.string sn,.int .i64 sl,.int .i64 sc,.bool sb,.bool se,.string sd,.string su,.int .i64 sw,.int .i64 sr,.slice p1 m p3,.slice p4 ni p6] 55)).alloc (.cells #[.string sn,.int .i64 sl,.int .i64 sc,.bool sb,.bool se,.string sd,.string su,.int .i64 sw,.int .i64 sr,.slice q1 m q3,.slice q4 ni q6] 55)) wr.heap.size [.string sn,.int .i64 sl,.int .i64 sc,.bool sb,.bool se,.string sd,.string su,.int .i64 sw,.int .i64 sr,.slice p1 m p3,.slice p4 ni p6]:=(Bn.new wr [.string sn,.int .i64 sl,.int .i64 sc,.bool sb,.bool se,.string sd,.string su,.int .i64 sw,.int .i64 sr,.slice p1 m p3,.slice p4 ni p6] 55 _ rfl).on ((Below.refl _ _).alloc Nat.le.refl _)
   have hY:Bn ((wr.alloc (.cells #[.string sn,.int .i64 sl,.int .i64 sc,.bool sb,.bool se,.string sd,.string su,.int .i64 sw,.int .i64 sr,.slice p1 m p3,.slice p4 ni p6] 55)).alloc (.cells #[.string sn,.int .i64 sl,.int .i64 sc,.bool sb,.bool se,.string sd,.string su,.int .i64 sw,.int .i64 sr,.slice q1 m q3,.slice q4 ni q6] 55)) (wr.heap.size+1) [.string sn,.int .i64 sl,.int .i64 sc,.bool sb,.bool se,.string sd,.string su,.int .i64 sw,.int .i64 sr,.slice q1 m q3,.slice q4 ni q6]:=Bn.new (wr.alloc (.cells #[.string sn,.int .i64 sl,.int .i64 sc,.bool sb,.bool se,.string sd,.string su,.int .i64 sw,.int .i64 sr,.slice p1 m p3,.slice p4 ni p6] 55)) [.string sn,.int .i64 sl,.int .i64 sc,.bool sb,.bool se,.string sd,.string su,.int .i64 sw,.int .i64 sr,.slice q1 m q3,.slice q4 ni q6] 55 _ (by simp)
   have hal1:=(Below.refl wr.heap.size wr).alloc Nat.le.refl (.cells #[.string sn,.int .i64 sl,.int .i64 sc,.bool sb,.bool se,.string sd,.string su,.int .i64 sw,.int .i64 sr,.slice p1 m p3,.slice p4 ni p6] 55)
   have E0:=(hal1.cell (p:=⟨b',off'+i*11+0,none⟩) (Nat.lt_of_lt_of_le hbl' hb.size)).trans D0
   have E1:=(hal1.cell (p:=⟨b',off'+i*11+1,none⟩) (Nat.lt_of_lt_of_le hbl' hb.size)).trans D1
   have E2:=(hal1.cell (p:=⟨b',off'+i*11+2,none⟩) (Nat.lt_of_lt_of_le hbl' hb.size)).trans D2
   have E3:=(hal1.cell (p:=⟨b',off'+i*11+3,none⟩) (Nat.lt_of_lt_of_le hbl' hb.size)).trans D3
   have E4:=(hal1.cell (p:=⟨b',off'+i*11+4,none⟩) (Nat.lt_of_lt_of_le hbl' hb.size)).trans D4
   have E5:=(hal1.cell (p:=⟨b',off'+i*11+5,none⟩) (Nat.lt_of_lt_of_le hbl' hb.size)).trans D5
   have E6:=(hal1.cell (p:=⟨b',off'+i*11+6,none⟩) (Nat.lt_of_lt_of_le hbl' hb.size)).trans D6
   have E7:=(hal1.cell (p:=⟨b',off'+i*11+7,none⟩) (Nat.lt_of_lt_of_le hbl' hb.size)).trans D7
   have E8:=(hal1.cell (p:=⟨b',off'+i*11+8,none⟩) (Nat.lt_of_lt_of_le hbl' hb.size)).trans D8
   have E9:=(hal1.cell (p:=⟨b',off'+i*11+9,none⟩) (Nat.lt_of_lt_of_le hbl' hb.size)).trans D9
   have E10:=(hal1.cell (p:=⟨b',off'+i*11+10,none⟩) (Nat.lt_of_lt_of_le hbl' hb.size)).trans D10
   rw [Nat.add_zero] at E0 C0
   have hbx:=hb.trans (hal.mono hb.size)
   have hcall:∀ w1,Below w.heap.size w w1->Calls Tryz.prog 34 #[.agg #[.string sn,.int .i64 sl,.int .i64 sc,.bool sb,.bool se,.string sd,.string su,.int .i64 sw,.int .i64 sr,.slice p1 m p3,.slice p4 ni p6],.agg #[.string sn,.int .i64 sl,.int .i64 sc,.bool sb,.bool se,.string sd,.string su,.int .i64 sw,.int .i64 sr,.slice q1 m q3,.slice q4 ni q6]] w1 fun e w'=>e=.returned (.bool true)/\Below w1.heap.size w1 w':=fun w1 b1=>salo2 sn sl sc sb se sd su sw sr p1 q1 m p3 q3 p4 ni p6 q4 ni q6 w1 (fun w2 b2=>eqfOn_any (HON.out.stay kp_on (ok':=ok) (fun b hb hl=>⟨hb,((b2.block b (Nat.lt_of_lt_of_le hl b1.size)).trans (b1.block b hl))⟩)) (HON'.out.stay kp_on (ok':=ok') (fun b hb hl=>⟨hb,((b2.block b (Nat.lt_of_lt_of_le hl b1.size)).trans (b1.block b hl))⟩)) HKO.out.2.2.2.2)
   go_upto_region 7 with fail
   clear C0 D0 E0 C1 D1 E1 C2 D2 E2 C3 D3 E3 C4 D4 E4 C5 D5 E5 C6 D6 E6 C7 D7 E7 C8 D8 E8 C9 D9 E9 C10 D10 E10 hal1
   generalize ((wr.alloc (.cells #[.string sn,.int .i64 sl,.int .i64 sc,.bool sb,.bool se,.string sd,.string su,.int .i64 sw,.int .i64 sr,.slice p1 m p3,.slice p4 ni p6] 55)).alloc (.cells #[.string sn,.int .i64 sl,.int .i64 sc,.bool sb,.bool se,.string sd,.string su,.int .i64 sw,.int .i64 sr,.slice q1 m q3,.slice q4 ni q6] 55))=wx at *
   have x0:=(hX 0 _ rfl).1
   have y0:=(hY 0 _ rfl).1
   have x1:=(hX 1 _ rfl).1
   have y1:=(hY 1 _ rfl).1
   have x2:=(hX 2 _ rfl).1
   have y2:=(hY 2 _ rfl).1
   have x3:=(hX 3 _ rfl).1
   have y3:=(hY 3 _ rfl).1
   have x4:=(hX 4 _ rfl).1
   have y4:=(hY 4 _ rfl).1
   have x5:=(hX 5 _ rfl).1
   have y5:=(hY 5 _ rfl).1
   have x6:=(hX 6 _ rfl).1
   have y6:=(hY 6 _ rfl).1
   have x7:=(hX 7 _ rfl).1
   have y7:=(hY 7 _ rfl).1
   have x8:=(hX 8 _ rfl).1
   have y8:=(hY 8 _ rfl).1
   have x9:=(hX 9 _ rfl).1
   have y9:=(hY 9 _ rfl).1
   have x10:=(hX 10 _ rfl).1
   have y10:=(hY 10 _ rfl).1
   go_wp2_with (first
    | (go_at_call 34;refine (hcall _ hbx).mono ?_;rintro e w1 ⟨rfl,b1⟩)
    | fail)
   have hb2:=hbx.trans (b1.mono hbx.size)
   go_wp2
   go_roundw
   case rel=>exact ⟨i+1,hlt,by go_num,hb2⟩
   case measure=>simp [RowKit.intOf];omega
  ·have i1:¬ (i:Int) < (n:Int):=by omega
   go_wp2
   go_ret
   exact ⟨rfl,hb⟩
theorem eqVar_any {ok ok':Nat->Prop}{w:World}{l:List (List UInt8 × Int × Pl)}{v v':Value}(h:RdK ok w 4 (rVar ok w) l v) (h':RdK ok' w 4 (rVar ok' w) l v') :
  Calls Tryz.prog 32 #[v,v'] w fun e w'=>e=.returned (.bool true)/\Below w.heap.size w w':=by
 obtain ⟨a,cap,rfl,hlc,hcm⟩:=h.form
 obtain ⟨a',cap',rfl,hlc',hcm'⟩:=h'.form
 unfold maxLen at hcm hcm'
 have HC:=mkHid h
 have HC':=mkHid h'
 obtain ⟨n,hn⟩:∃ n,l.length=n:=⟨_,rfl⟩
 rw [hn] at hlc hlc' ⊢
 have HN:Hid (l.length=n):=hn
 clear h h' hn
 go_enter Tryz.func32,Tryz.ntmps32
 go_wp2
 go_loopw [13] (fun ix wr=>∃ (i:Nat),i<=n/\ix=.int .i64 (i:Int)/\Below w.heap.size w wr) (fun ix _=>n - (RowKit.intOf ix).toNat)
 case atStart=>exact ⟨0,Nat.zero_le _,rfl,Below.refl _ _⟩
 case round=>
  obtain ⟨i,hi,rfl,hb⟩:=hrel
  by_cases hlt:i < n
  ·have hil:i < l.length:=by rw [HN.out];exact hlt
   obtain ⟨b,off,rfl,hbl,hc⟩:=varQ_at HC.out i hil
   obtain ⟨b',off',rfl,hbl',hc'⟩:=varQ_at HC'.out i hil
   obtain ⟨q,hq⟩:∃ q,l[i]=q:=⟨_,rfl⟩
   rw [hq] at hc hc'
   obtain ⟨nm,x,pl,pc,hsv⟩:∃ nm x pl pc,varV q=[.string nm,.int .i64 x,.int .i64 pl,.int .i64 pc]:=⟨_,_,_,_,rfl⟩
   rw [hsv] at hc hc'
   clear hq hsv
   have i1:(i:Int) < (n:Int):=by omega
   have i2:(0:Int)<=(i:Int):=by omega
   have C0:=(hb.cell (p:=⟨b,off+i*4+0,none⟩) hbl).trans (hc 0 _ rfl)
   have D0:=(hb.cell (p:=⟨b',off'+i*4+0,none⟩) hbl').trans (hc' 0 _ rfl)
   have C1:=(hb.cell (p:=⟨b,off+i*4+1,none⟩) hbl).trans (hc 1 _ rfl)
   have D1:=(hb.cell (p:=⟨b',off'+i*4+1,none⟩) hbl').trans (hc' 1 _ rfl)
   have C2:=(hb.cell (p:=⟨b,off+i*4+2,none⟩) hbl).trans (hc 2 _ rfl)
   have D2:=(hb.cell (p:=⟨b',off'+i*4+2,none⟩) hbl').trans (hc' 2 _ rfl)
   have C3:=(hb.cell (p:=⟨b,off+i*4+3,none⟩) hbl).trans (hc 3 _ rfl)
   have D3:=(hb.cell (p:=⟨b',off'+i*4+3,none⟩) hbl').trans (hc' 3 _ rfl)
   rw [Nat.add_zero] at C0 D0
   clear hc hc'
   go_wp2
   go_region_held_law (fun w'=>w'.cell? ⟨b,off+i*4,none⟩=some (.string nm)/\w'.cell? ⟨b,off+i*4+1,none⟩=some (.int .i64 x)/\w'.cell? ⟨b,off+i*4+2,none⟩=some (.int .i64 pl)/\w'.cell? ⟨b,off+i*4+3,none⟩=some (.int .i64 pc)/\w'.cell? ⟨b',off'+i*4,none⟩=some (.string nm)/\w'.cell? ⟨b',off'+i*4+1,none⟩=some (.int .i64 x)/\w'.cell? ⟨b',off'+i*4+2,none⟩=some (.int .i64 pl)/\w'.cell? ⟨b',off'+i*4+3,none⟩=some (.int .i64 pc))
    (exact ⟨C0,C1,C2,C3,D0,D1,D2,D3⟩)
    (fail)
   all_goals (
    go_wp2
    go_roundw
    case rel=>exact ⟨i+1,hlt,by go_num,hb.drew⟩
    case measure=>simp [RowKit.intOf];omega)
  ·have i1:¬ (i:Int) < (n:Int):=by omega
   go_wp2
   go_ret
   exact ⟨rfl,hb⟩
structure Two (w:World) (base e:Nat) (p q:Value) (n1 n2:Nat) (xa xb:List Value):Prop where
 a:w.ownsRow base e 1 p n1 xa
 b:w.ownsRow base e 1 q n2 xb
 ne:∀ g,p.ownBlock=some g->q.ownBlock≠some g
theorem Two.symm {w:World}{base e:Nat}{p q:Value}{n1 n2:Nat}{xa xb:List Value}(h:Two w base e p q n1 n2 xa xb):Two w base e q p n2 n1 xb xa:=⟨h.b,h.a,fun g h1 h2=>h.ne g h2 h1⟩
theorem Two.alloc {w:World}{base e:Nat}{p q:Value}{n1 n2:Nat}{xa xb:List Value}(h:Two w base e p q n1 n2 xa xb) (O:Obj):Two (w.alloc O) base e p q n1 n2 xa xb:=⟨World.ownsRow.alloc h.a O,World.ownsRow.alloc h.b O,h.ne⟩
theorem Two.drew {w:World}{base e:Nat}{p q:Value}{n1 n2:Nat}{xa xb:List Value}(h:Two w base e p q n1 n2 xa xb):Two w.drew base e p q n1 n2 xa xb:=⟨h.a,h.b,h.ne⟩
theorem Two.on {w w':World}{base e:Nat}{p q:Value}{n1 n2:Nat}{xa xb:List Value}(h:Two w base e p q n1 n2 xa xb) (hb:Below w.heap.size w w'):Two w' base e p q n1 n2 xa xb:=⟨own_on h.a hb Nat.le.refl,own_on h.b hb Nat.le.refl,h.ne⟩
theorem own_formQ {w:World}{base e size:Nat}{v:Value}{n:Nat}{xs:List Value}(h:w.ownsRow base e size v n xs):∃ a cap,v=.slice a n cap/\n<=cap/\cap<=maxLen:=by
 rcases h.2 with ⟨h1,h2⟩|⟨g,cap,cur,h1,_,_,h3,h4,_⟩
 ·exact ⟨none,0,by rw [h1,h2],by omega,by simp [maxLen]⟩
 ·exact ⟨_,_,h1,h3,h4⟩
theorem two_push {P:Program}(w:World) {ops:Array Oper}{o:Oper}{a:Act}{K:Act->World->Prop}{Q:Exit->Act->World->Prop}{E:Prop}(hgd:o.guard=none) (s x:Operand) (t:TypeId)
  (ho:o.op=.call { callee:=.builtin .append,args:=#[s,x],argTypes:=#[t,t] })
  (base:Nat) (e:TypeId) (i:TypeInfo) (z:Value) (bytes:Nat) (ht:P.underlying t=some (.slice e)) (hi:P.info? e=some i) (hz:i.zero=some z)
  (hsize:i.size=1) (hby:i.bytes=bytes) (hzs:z.cells.size=1) (p q:Value) (n1 n2:Nat) (xa xb:List Value) (hs:a.eval s=p) (hT:Two w base e p q n1 n2 xa xb)
  (k:Nat) (u:Value) (hx:a.eval x=.slice (some ⟨k,0,none⟩) 1 1) (hc:w.cell? ⟨k,0,none⟩=some u) (h1:u.oneCell'=true) (hroom:(n1+1+(n1+1) / 4+192)*bytes<=281474976710656) (h63:n1+1<=maxLen) (hbase:base<=w.heap.size)
  (h:∀ a' cap' w',Two w' base e (.slice a' (n1+1) cap') q (n1+1) n2 (xa++[u]) xb->Below base w w'->(∀ b u',w.cell? ⟨b,0,none⟩=some u'->p.ownBlock≠some b->w'.cell? ⟨b,0,none⟩=some u')->K (a.put o.dst (.slice a' (n1+1) cap')) w') :
  if Region.wanted o (yielded ops a.tmps)=true then Oper.wp P o a w K Q else E:=by
 have hsrc:Src P 1 t (.slice (some ⟨k,0,none⟩) 1 1) 1 [u] w:=Src.ofSlice _ ht _ 1 1 _ rfl (fun j v hv=>by
  match j with
  | 0=>
   have:u=v:=by simpa using hv
   subst this
   rw [add_plain]
   exact hc
  | j+1=>simp at hv) (fun v hv=>by
  have:v=u:=by simpa using hv
  subst this
  exact h1)
 refine step_append_at _ hgd s x t t ho base e i z 1 bytes ht hi hz hsize hby hzs p n1 xa hs hT.a _ 1 [u] hx hsrc 1 (.inr hroom) Nat.le.refl h63 hbase ?_
 intro v' w' hown hg hat
 obtain ⟨a',cap',rfl,_⟩:=own_formQ hown
 have hqk:=ownsRow_lt hT.b
 refine h a' cap' w' ⟨hown,ownsRow_keep hT.b (fun g hg'=>hg.block g (hqk g hg').2 (fun e=>hT.ne g e.symm hg')),fun g hg1 hg2=>?_⟩ ((Below.refl base w).grown hg hbase (fun k hk=>(ownsRow_lt hT.a k hk).1)) (fun b u' hb hne=>?_)
 ·rcases hat with h2|h2
  ·exact hT.ne g (h2 ▸ hg1) hg2
  ·rw [h2] at hg1
   have:w.heap.size=g:=Option.some.inj hg1
   have:=(hqk g hg2).2
   omega
 ·rw [World.cell?_of_block (w:=w) (a:=⟨b,0,none⟩) (hg.block b (World.block_lt_of_cell? w _ hb) (fun e=>hne e.symm))]
  exact hb
theorem Two.pop {w:World}{base e:Nat}{p q:Value}{n:Nat}{xa xb:List Value}{u u':Value}(hn:n=xa.length) (hn':n=xb.length) (h:Two w base e p q (n+1) (n+1) (xa++[u]) (xb++[u'])):∃ g cap g' cap',p=.slice (some ⟨g,0,none⟩) (n+1) cap/\q=.slice (some ⟨g',0,none⟩) (n+1) cap'/\n+1<=cap/\cap<=maxLen/\n+1<=cap'/\cap'<=maxLen/\g < w.heap.size/\g' < w.heap.size/\w.cell? ⟨g,n,none⟩=some u/\w.cell? ⟨g',n,none⟩=some u'/\Two w base e (.slice (some ⟨g,0,none⟩) n cap) (.slice (some ⟨g',0,none⟩) n cap') n n xa xb:=by
 obtain ⟨g,cap,rfl,h1,h2,h3,h4,h5,h6⟩:=rowV_pop hn h.a
 obtain ⟨g',cap',rfl,k1,k2,k3,k4,k5,k6⟩:=rowV_pop hn' h.b
 exact ⟨g,cap,g',cap',rfl,rfl,h1,h2,k1,k2,h4,k4,h5,k5,h6,k6,fun x hx=>h.ne x hx⟩
theorem Tryz.infoRS:(Tryz.prog.info? 31).map (fun i=>(i.zero,i.size,i.bytes))=some (some (.slice none 0 0),1,24):=by kernel_rfl
abbrev Pq2:=Fo × Value × Value
def PqOk (N:Nat) (w:World) (x:Pq2):Prop:=FoOk x.1/\RdK (fun b=>b < N) w 11 (rSt x.1.1 (fun b=>b < N) w) x.1.2 x.2.1/\RdK (fun b=>b < N) w 11 (rSt x.1.1 (fun b=>b < N) w) x.1.2 x.2.2
theorem pq_deep {N:Nat}{w:World}{x:Pq2}(h:PqOk N w x):∃ (d:Nat) (l:List (St (d+1))),PqOk N w (⟨d+1,l⟩,x.2)/\szL x.1.1 x.1.2=szL (d+1) l:=by
 obtain ⟨⟨d,l⟩,v⟩:=x
 cases d with
 | succ d=>exact ⟨d,l,h,rfl⟩
 | zero=>
  cases l with
  | cons x _=>exact Empty.elim x
  | nil=>
   obtain ⟨h1,⟨a,cap,h2,h3,h4,_⟩,a',cap',k2,k3,k4,_⟩:=h
   exact ⟨0,[],⟨⟨by simp,fun t ht=>by cases ht⟩,⟨a,cap,h2,h3,h4,fun i hi=>absurd hi (by simp)⟩,a',cap',k2,k3,k4,fun i hi=>absurd hi (by simp)⟩,rfl⟩
def szQ (x:Pq2):Nat:=szL x.1.1 x.1.2
theorem szQ_len:∀ P:List Pq2,P.length<=(P.map szQ).sum
 | []=>by simp
 | p :: P=>by
  have:=szQ_len P
  have:=szL_pos p.1.1 p.1.2
  show P.length+1<=szL p.1.1 p.1.2+(P.map szQ).sum
  omega
theorem two_lit (w:World) (base e:Nat) (u u':Value) (hb:base<=w.heap.size):Two ((w.alloc (.cells #[u] e)).alloc (.cells #[u'] e)) base e (.slice (some ⟨w.heap.size,0,none⟩) 1 1) (.slice (some ⟨w.heap.size+1,0,none⟩) 1 1) 1 1 [u] [u']:=by
 have h1:=World.ownsRow_lit (e:=e) (base:=base) (size:=1) w #[u] 1 hb (by simp [maxLen]) (by simp)
 have h2:=World.ownsRow_lit (e:=e) (base:=base) (size:=1) (w.alloc (.cells #[u] e)) #[u'] 1 (by simp;omega) (by simp [maxLen]) (by simp)
 exact ⟨by simpa using World.ownsRow.alloc h1 _,by simpa using h2,fun g h1 h2=>by simp [Value.ownBlock] at h1 h2;omega⟩
theorem Below.al1 {B:Nat}{w wc:World}(h:Below B w wc) (O:Obj) (hB:B<=wc.heap.size:=by first|assumption|omega):Below B w (wc.alloc O):=h.alloc hB O
theorem Below.aft {B:Nat}{w wc w1:World}(h:Below B w wc) (b:Below B wc w1):Below B w w1:=h.trans b
theorem same_any {ok ok':Nat->Prop}{w:World}{d:Nat}{c:ChG d}{v v':Value}(h:RdC ok w d c v) (h':RdC ok' w d c v') (hok:ChOk d c) :
  Calls Tryz.prog 12 #[v,v'] w fun e w'=>e=.returned (.bool true)/\Below w.heap.size w w':=by
 obtain ⟨ir,hir,hir0,hir1,hir2⟩:=info_parts Tryz.infoRS
 obtain ⟨sv,ss,rfl,hv,hs⟩:=h
 obtain ⟨sv',ss',rfl,hv',hs'⟩:=h'
 obtain ⟨a,cap,rfl,_⟩:=hv.form
 obtain ⟨a',cap',rfl,_⟩:=hv'.form
 obtain ⟨p4,p6,rfl,_⟩:=hs.form
 obtain ⟨q4,q6,rfl,_⟩:=hs'.form
 obtain ⟨nm,hnm⟩:∃ nv,sV c.1.1=.string nv:=⟨_,rfl⟩
 obtain ⟨n,hn⟩:∃ n,c.2.2.1.length=n:=⟨_,rfl⟩
 obtain ⟨i,hi⟩:∃ n,c.2.2.2.length=n:=⟨_,rfl⟩
 obtain ⟨vn,hvn⟩:∃ x,c.2.1=x:=⟨_,rfl⟩
 obtain ⟨ln,hln⟩:∃ x,c.1.2.1=x:=⟨_,rfl⟩
 obtain ⟨co,hco⟩:∃ x,c.1.2.2=x:=⟨_,rfl⟩
 rw [hnm,hvn,hln,hco,hi,hn]
 rw [hi] at hs hs'
 rw [hn] at hv hv'
 have HV:=mkHid hv
 have HV':=mkHid hv'
 have HP0:Hid (PqOk w.heap.size w (⟨d,c.2.2.2⟩,.slice p4 i p6,.slice q4 i q6)):=⟨hok.fo,hs.stay (kp_st d) (fun b hb hl=>⟨hl,rfl⟩),hs'.stay (kp_st d) (fun b hb hl=>⟨hl,rfl⟩)⟩
 have HSZ:Hid (szL d c.2.2.2<=1000000):=hok.sz
 clear hv hv' hs hs' hok hnm hn hi hvn hln hco
 have hal:Below w.heap.size w ((w.alloc (.cells #[.string nm,.int .i64 vn,.int .i64 ln,.int .i64 co,.slice a n cap,.slice p4 i p6] 33)).alloc (.cells #[.string nm,.int .i64 vn,.int .i64 ln,.int .i64 co,.slice a' n cap',.slice q4 i q6] 33)):=((Below.refl w.heap.size w).alloc Nat.le.refl _).alloc (by simp) _
 have hX:Bn ((w.alloc (.cells #[.string nm,.int .i64 vn,.int .i64 ln,.int .i64 co,.slice a n cap,.slice p4 i p6] 33)).alloc (.cells #[.string nm,.int .i64 vn,.int .i64 ln,.int .i64 co,.slice a' n cap',.slice q4 i q6] 33)) w.heap.size [.string nm,.int .i64 vn,.int .i64 ln,.int .i64 co,.slice a n cap,.slice p4 i p6]:=(Bn.new w [.string nm,.int .i64 vn,.int .i64 ln,.int .i64 co,.slice a n cap,.slice p4 i p6] 33 _ rfl).on ((Below.refl _ _).alloc Nat.le.refl _)
 have hY:Bn ((w.alloc (.cells #[.string nm,.int .i64 vn,.int .i64 ln,.int .i64 co,.slice a n cap,.slice p4 i p6] 33)).alloc (.cells #[.string nm,.int .i64 vn,.int .i64 ln,.int .i64 co,.slice a' n cap',.slice q4 i q6] 33)) (w.heap.size+1) [.string nm,.int .i64 vn,.int .i64 ln,.int .i64 co,.slice a' n cap',.slice q4 i q6]:=Bn.new (w.alloc (.cells #[.string nm,.int .i64 vn,.int .i64 ln,.int .i64 co,.slice a n cap,.slice p4 i p6] 33)) [.string nm,.int .i64 vn,.int .i64 ln,.int .i64 co,.slice a' n cap',.slice q4 i q6] 33 _ (by simp)
 go_enter Tryz.func12,Tryz.ntmps12
 go_upto_region 1 with fail
 generalize ((w.alloc (.cells #[.string nm,.int .i64 vn,.int .i64 ln,.int .i64 co,.slice a n cap,.slice p4 i p6] 33)).alloc (.cells #[.string nm,.int .i64 vn,.int .i64 ln,.int .i64 co,.slice a' n cap',.slice q4 i q6] 33))=wx at *
 have hq:=eqVar_any (HV.out.stay kp_var (ok':=ok) (w':=wx) (fun b hb hl=>⟨hb,hal.block b hl⟩)) (HV'.out.stay kp_var (ok':=ok') (w':=wx) (fun b hb hl=>⟨hb,hal.block b hl⟩))
 have x0:=(hX 0 _ rfl).1
 have y0:=(hY 0 _ rfl).1
 have x1:=(hX 1 _ rfl).1
 have y1:=(hY 1 _ rfl).1
 have x2:=(hX 2 _ rfl).1
 have y2:=(hY 2 _ rfl).1
 have x3:=(hX 3 _ rfl).1
 have y3:=(hY 3 _ rfl).1
 have x4:=(hX 4 _ rfl).1
 have y4:=(hY 4 _ rfl).1
 have x5:=(hX 5 _ rfl).1
 have y5:=(hY 5 _ rfl).1
 go_upto_region 3 with (first
  | (go_at_call 32;refine hq.mono ?_;rintro e w1 ⟨rfl,b1⟩))
 have hb1:=hal.trans (b1.mono hal.size)
 obtain ⟨s5,_⟩:=(hX.on b1) 5 _ rfl
 obtain ⟨t5,_⟩:=(hY.on b1) 5 _ rfl
 clear x0 y0 x1 y1 x2 y2 x3 y3 x4 y4 x5 y5 hX hY hal hq b1 HV HV'
 go_cut [5,6] (fun v5 v6 wc=>∃ T1 T2,v5=.slice (some ⟨T1,0,none⟩) 1 1/\v6=.slice (some ⟨T2,0,none⟩) 1 1/\Hid (Two wc w.heap.size 31 (.slice (some ⟨T1,0,none⟩) 1 1) (.slice (some ⟨T2,0,none⟩) 1 1) 1 1 [.slice p4 i p6] [.slice q4 i q6])/\Below w.heap.size w wc)
 case first=>
  clear HP0 HSZ
  go_region_held_law (fun w'=>w'.cell? ⟨w.heap.size,5,none⟩=some (.slice p4 i p6)/\w'.cell? ⟨w.heap.size+1,5,none⟩=some (.slice q4 i q6))
   ((refine ⟨?_,?_⟩<;>(repeat (with_reducible first|exact s5|exact t5|refine cell_al ?_|refine cell_dr ?_))<;>done))
   (fail)
  ·have hbs:=hb1.size
   go_wp2
   go_meet
   case rel=>exact ⟨_,_,rfl,rfl,two_lit w1.drew w.heap.size 31 _ _ hbs,(hb1.drew.alloc hbs _).alloc (by simp;omega) _⟩
  ·have hbs:=hb1.size
   go_wp2
   go_meet
   case rel=>exact ⟨_,_,rfl,rfl,(two_lit w1.drew w.heap.size 31 _ _ hbs).symm,(hb1.drew.alloc hbs _).alloc (by simp;omega) _⟩
 case rest=>
  obtain ⟨T1,T2,rfl,rfl,hT0,hb0⟩:=hcut
  clear hb1 s5 t5
  obtain ⟨wk,hwk⟩:∃ x,x=wc:=⟨_,rfl⟩
  subst hwk
  go_wp2
  go_loopg [5,6] 1000000 (fun gn p q wr=>∃ (ps:List Pq2),Hid (Two wr w.heap.size 31 p q ps.length ps.length (ps.map (fun x=>x.2.1)) (ps.map (fun x=>x.2.2)))/\Hid (∀ x∈ps,PqOk w.heap.size w x)/\Hid ((ps.map szQ).sum<=gn/\gn<=1000000)/\Below w.heap.size w wr)
  case atStart=>
   refine ⟨[(⟨d,c.2.2.2⟩,.slice p4 i p6,.slice q4 i q6)],hT0,fun x hx=>?_,⟨?_,Nat.le_refl _⟩,hb0⟩
   ·have:x=(⟨d,c.2.2.2⟩,.slice p4 i p6,.slice q4 i q6):=by simpa using hx
    subst this
    exact HP0.out
   ·show szL d c.2.2.2+0<=1000000
    have:=HSZ.out
    omega
  case round=>
   clear hT0 hb0 HP0 HSZ
   obtain ⟨ps,hT,hK,hM,hb⟩:=hrel
   by_cases he:ps=[]
   ·subst he
    obtain ⟨ra,rc,rfl⟩:=rowV_nil hT.out.a
    go_wp2
    go_ret
    exact ⟨rfl,hb⟩
   obtain ⟨ps',x,rfl⟩:=last_ofP he
   obtain ⟨dd,l,hx,hxs⟩:=pq_deep (hK.out x (by simp))
   have hm:=hM.out
   rw [List.map_append,List.sum_append,List.map_singleton,List.sum_singleton,show szQ x=szL (dd+1) l from hxs] at hm
   obtain ⟨x1,x2,x3⟩:=x
   obtain ⟨hf,hr,hr'⟩:=hx
   replace hr:RdK (fun b=>b < w.heap.size) w 11 (rSt (dd+1) (fun b=>b < w.heap.size) w) l x2:=hr
   replace hr':RdK (fun b=>b < w.heap.size) w 11 (rSt (dd+1) (fun b=>b < w.heap.size) w) l x3:=hr'
   obtain ⟨s1,s3,rfl,hs3,hs3m⟩:=hr.form
   obtain ⟨t1,t3,rfl,ht3,ht3m⟩:=hr'.form
   have hTT:=hT.out
   rw [List.length_append,List.length_singleton,List.map_append,List.map_append] at hTT
   obtain ⟨g,gc,g',gc',rfl,rfl,k1,k2,k3,k4,k5,k6,k7,k8,hP⟩:=Two.pop (n:=ps'.length) (by simp) (by simp) hTT
   have hpl:ps'.length<=1000000:=by
    have:=szQ_len ps'
    omega
   obtain ⟨m,hml⟩:∃ m,ps'.length=m:=⟨_,rfl⟩
   obtain ⟨nl,hnl⟩:∃ m,l.length=m:=⟨_,rfl⟩
   rw [hml] at k1 k3 k7 k8 hP hpl ⊢
   rw [hnl] at k7 k8 hs3 ht3
   have hcall:∀ w1,Below w.heap.size w w1->Calls Tryz.prog 33 #[.slice s1 nl s3,.slice t1 nl t3,.func (.func 34) #[] #[]] w1 fun e w'=>e=.returned (.bool true)/\Below w1.heap.size w1 w':=fun w1 b1=>by
    rw [<- hnl]
    exact eqfSt_any (hr.stay (kp_st _) (ok':=fun b=>b < w.heap.size) (fun b hb hl=>⟨hb,b1.block b hl⟩)) (hr'.stay (kp_st _) (ok':=fun b=>b < w.heap.size) (fun b hb hl=>⟨hb,b1.block b hl⟩)) (fun s hs=>(hf.2 s hs).1)
   have hll:nl<=100000:=by rw [<- hnl];exact hf.1
   have HML:=mkHid hml
   have HNL:=mkHid hnl
   have HF:=mkHid hf
   have HR:=mkHid hr
   have HR':=mkHid hr'
   have HM2:Hid ((ps'.map szQ).sum+szL (dd+1) l<=gk/\gk<=1000000):=hm
   have HK2:Hid (∀ x∈ps',PqOk w.heap.size w x):=fun y hy=>hK.out y (by simp [hy])
   have HP:=mkHid hP
   unfold maxLen at hs3m ht3m k2 k4
   clear hT hK hM hTT hP hml hnl hf hr hr' hm hxs he
   have i1:((m:Int)+1 > 0):=by omega
   have i3:(0:Int)<=(m:Int):=by omega
   have i4:(m:Int)<=(gc:Int):=by omega
   have i4':(m:Int)<=(gc':Int):=by omega
   have i5:(m:Int) < (m:Int)+1:=by omega
   go_upto_region 6 with fail
   go_region_held_law (fun w'=>w'.cell? ⟨g,m,none⟩=some (.slice s1 nl s3)/\w'.cell? ⟨g',m,none⟩=some (.slice t1 nl t3))
    (exact ⟨k7,k8⟩)
    (fail)
   go_upto_region 7 with fail
   go_region_held_law (fun w'=>w'.cell? ⟨g,m,none⟩=some (.slice s1 nl s3)/\w'.cell? ⟨g',m,none⟩=some (.slice t1 nl t3))
    (exact ⟨k7,k8⟩)
    (fail)
   have hP2:Hid (Two wr.drew.drew w.heap.size 31 (.slice (some ⟨g,0,none⟩) m gc) (.slice (some ⟨g',0,none⟩) m gc') m m (ps'.map (fun x=>x.2.1)) (ps'.map (fun x=>x.2.2))):=HP.out.drew.drew
   have hb2:=hb.drew.drew
   clear k7 k8 hb HP
   generalize wr.drew.drew=w2 at *
   go_upto_region 10 with (first
    | (go_at_call 33;refine (hcall _ hb2).mono ?_;rintro e w3 ⟨rfl,b3⟩)
    | fail)
   have hP3:=mkHid (hP2.out.on b3)
   have hb3:=hb2.trans (b3.mono hb2.size)
   clear hP2 hb2 b3 hcall
   have hr0:Hid (Two w3 w.heap.size 31 (.slice (some ⟨g,0,none⟩) m gc) (.slice (some ⟨g',0,none⟩) m gc') (m+0) (m+0) ((ps'++([]:List Pq2)).map (fun x=>x.2.1)) ((ps'++([]:List Pq2)).map (fun x=>x.2.2))):=by
    show Two _ _ _ _ _ _ _ _ _
    rw [List.append_nil]
    exact hP3.out
   clear hP3
   go_wp2
   go_loopw [5,6,70] (fun p q ix wr=>∃ (j:Nat) (ks:List Pq2),j<=nl/\ix=.int .i64 (j:Int)/\Hid (ks.length=j/\(∀ x∈ks,PqOk w.heap.size w x)/\ks.map szQ=(l.take j).map (fun t=>szL dd t.2))/\Hid (Two wr w.heap.size 31 p q (m+j) (m+j) ((ps'++ks).map (fun x=>x.2.1)) ((ps'++ks).map (fun x=>x.2.2)))/\Below w.heap.size w wr) (fun _ _ ix _=>nl - (RowKit.intOf ix).toNat)
   case atStart=>exact ⟨0,[],Nat.zero_le _,rfl,⟨rfl,fun x hx=>absurd hx (by simp),rfl⟩,hr0,hb3⟩
   case round=>
    clear hr0 hb3
    obtain ⟨j,ks,hj,rfl,hks,hT0,hb⟩:=hrel
    obtain ⟨ra,rc,rfl,hrl,hrm⟩:=own_formQ hT0.out.a
    obtain ⟨sa,sc,rfl,hsl,hsm⟩:=own_formQ hT0.out.b
    by_cases hjl:j < nl
    ·have hjll:j < l.length:=by rw [HNL.out];exact hjl
     obtain ⟨b,off,_,_,e4,e6,rfl,hbl,_,hIn,hc⟩:=stQ_at HR.out j hjll
     obtain ⟨b',off',_,_,f4,f6,rfl,hbl',_,hIn',hc'⟩:=stQ_at HR'.out j hjll
     obtain ⟨t,ht⟩:∃ t,l[j]=t:=⟨_,rfl⟩
     have htk:=HF.out.2 _ (List.getElem_mem hjll)
     rw [ht] at hIn hc hIn' hc'
     have htk:StOk (dd+1) t:=by rw [<- ht];exact htk
     obtain ⟨ei,hei⟩:∃ m,t.2.length=m:=⟨_,rfl⟩
     rw [hei] at hIn hc hIn' hc'
     have C0:=hc 10 _ rfl
     have D0:=hc' 10 _ rfl
     have C:=(hb.cell (p:=⟨b,off+j*11+10,none⟩) hbl).trans C0
     have D:=(hb.cell (p:=⟨b',off'+j*11+10,none⟩) hbl').trans D0
     obtain ⟨kk,hkk⟩:∃ kk:Pq2,kk=(⟨dd,t.2⟩,.slice e4 ei e6,.slice f4 ei f6):=⟨_,rfl⟩
     have hk2:Hid ((ks++[kk]).length=j+1/\(∀ x∈ks++[kk],PqOk w.heap.size w x)/\(ks++[kk]).map szQ=(l.take (j+1)).map (fun t=>szL dd t.2)):=by
      refine ⟨by rw [List.length_append,hks.out.1];rfl,fun y hy=>?_,?_⟩
      ·rcases List.mem_append.1 hy with hy|hy
       ·exact hks.out.2.1 y hy
       ·have:y=kk:=by simpa using hy
        rw [this,hkk]
        exact ⟨⟨htk.2.1,htk.2.2⟩,hIn,hIn'⟩
      ·rw [List.map_append,hks.out.2.2,List.take_succ_eq_append_getElem hjll,List.map_append,ht,hkk]
       rfl
     have hx1:(ps'++(ks++[kk])).map (fun x=>x.2.1)=(ps'++ks).map (fun x=>x.2.1)++[.slice e4 ei e6]:=by rw [<- List.append_assoc,List.map_append,hkk];rfl
     have hx2:(ps'++(ks++[kk])).map (fun x=>x.2.2)=(ps'++ks).map (fun x=>x.2.2)++[.slice f4 ei f6]:=by rw [<- List.append_assoc,List.map_append,hkk];rfl
     have HX1:=mkHid hx1
     have HX2:=mkHid hx2
     clear hx1 hx2 hkk
     have i6:(j:Int) < (nl:Int):=by omega
     have i7:(0:Int)<=(j:Int):=by omega
     have hT:Two wr.drew w.heap.size 31 (.slice ra (m+j) rc) (.slice sa (m+j) sc) (m+j) (m+j) ((ps'++ks).map (fun x=>x.2.1)) ((ps'++ks).map (fun x=>x.2.2)):=hT0.out.drew
     have hpa:=fun g hg=>(ownsRow_lt hT0.out.a g hg).2
     have hpb:=fun g hg=>(ownsRow_lt hT0.out.b g hg).2
     have hBB:Below w.heap.size w wr.drew:=hb.drew
     have hbs:=hb.size
     have hlb:b < wr.heap.size:=by omega
     have hlb':b' < wr.heap.size:=by omega
     clear hc hc' hIn hIn' htk ht hei hks hT0 HR HR' HF
     go_upto_region 13 with fail
     go_region_held_law (fun w'=>w'.cell? ⟨b,off+j*11+10,none⟩=some (.slice e4 ei e6)/\w'.cell? ⟨b',off'+j*11+10,none⟩=some (.slice f4 ei f6))
      ((refine ⟨?_,?_⟩<;>(repeat (with_reducible first|exact C|exact D|refine cell_al ?_|refine cell_dr ?_))<;>done))
      (first
       | (refine two_push _ rfl _ _ 62 rfl w.heap.size 31 ir (.slice none 0 0) 24 Tryz.underlying62 hir hir0 hir1 hir2 rfl (.slice ra (m+j) rc) _ (m+j) _ _ _ rfl (by first|exact hT|exact (hT.alloc _)|exact ((hT.alloc _).alloc _)) _ (.slice e4 ei e6) rfl (by first|exact cell1_new _ _ _ _ (by first|rfl|simp)|exact cell_al (cell1_new _ _ _ _ (by first|rfl|simp))|exact hkp _ _ (cell1_new _ _ _ _ (by first|rfl|simp)) (fun e=>by have:=hpb _ e;(first|omega|(simp at this;omega)))|exact hkp _ _ (cell_al (cell1_new _ _ _ _ (by first|rfl|simp))) (fun e=>by have:=hpb _ e;(first|omega|(simp at this;omega)))) rfl (by omega) (by unfold maxLen;omega) (by first|omega|(simp;omega)) ?_;intro da dc wq hT2 hbq hkp;have hT:=hT2;(first|have hBB:=Below.aft hBB hbq|have hBB:=Below.aft (Below.al1 hBB _) hbq|have hBB:=Below.aft (Below.al1 (Below.al1 hBB _ hBB.size) _ (by simp;omega)) hbq);have hbs:=hBB.size;have C:=(hBB.cell (p:=⟨b,off+j*11+10,none⟩) hbl).trans C0;have D:=(hBB.cell (p:=⟨b',off'+j*11+10,none⟩) hbl').trans D0)
       | (refine two_push _ rfl _ _ 62 rfl w.heap.size 31 ir (.slice none 0 0) 24 Tryz.underlying62 hir hir0 hir1 hir2 rfl (.slice sa (m+j) sc) _ (m+j) _ _ _ rfl (by first|exact hT.symm|exact (hT.alloc _).symm|exact ((hT.alloc _).alloc _).symm) _ (.slice f4 ei f6) rfl (by first|exact cell1_new _ _ _ _ (by first|rfl|simp)|exact cell_al (cell1_new _ _ _ _ (by first|rfl|simp))|exact hkp _ _ (cell1_new _ _ _ _ (by first|rfl|simp)) (fun e=>by have:=hpa _ e;(first|omega|(simp at this;omega)))|exact hkp _ _ (cell_al (cell1_new _ _ _ _ (by first|rfl|simp))) (fun e=>by have:=hpa _ e;(first|omega|(simp at this;omega)))) rfl (by omega) (by unfold maxLen;omega) (by first|omega|(simp;omega)) ?_;intro da dc wq hT2 hbq hkp;have hT:=hT2.symm;(first|have hBB:=Below.aft hBB hbq|have hBB:=Below.aft (Below.al1 hBB _) hbq|have hBB:=Below.aft (Below.al1 (Below.al1 hBB _ hBB.size) _ (by simp;omega)) hbq);have hbs:=hBB.size;have C:=(hBB.cell (p:=⟨b,off+j*11+10,none⟩) hbl).trans C0;have D:=(hBB.cell (p:=⟨b',off'+j*11+10,none⟩) hbl').trans D0)
       | fail)
     all_goals (
      have hT9:=hT
      rw [<- HX1.out,<- HX2.out] at hT9
      have HT9:=mkHid hT9
      have hb9:=hBB
      clear hT hT2 hT9 hBB hbq hkp C D C0 D0 hpa hpb HX1 HX2
      (try simp only [List.getElem_toArray,List.getElem_cons_succ,List.getElem_cons_zero,List.set_cons_succ,List.set_cons_zero,List.setIfInBounds_toArray])
      go_wp2
      go_roundw
      case rel=>exact ⟨j+1,ks++[kk],hjl,by go_num,hk2,HT9,hb9⟩
      case measure=>simp [RowKit.intOf];omega)
    ·have i6:¬ (j:Int) < (nl:Int):=by omega
     have hjn:j=nl:=by omega
     subst hjn
     have hkz:=hks.out.2.2
     rw [List.take_of_length_le (by rw [HNL.out];exact Nat.le_refl _)] at hkz
     have hsl:szL (dd+1) l=(l.map (fun t=>szL dd t.2)).sum+1:=rfl
     have hsum:=HM2.out
     have hsum2:((ps'++ks).map szQ).sum=(ps'.map szQ).sum+(l.map (fun t=>szL dd t.2)).sum:=by rw [List.map_append,List.sum_append,hkz]
     have hlen:(ps'++ks).length=m+j:=by rw [List.length_append,HML.out,hks.out.1]
     have hT8:=hT0.out
     rw [<- hlen] at hT8
     have hT9:Hid (Two wr w.heap.size 31 (.slice ra (m+j) rc) (.slice sa (m+j) sc) (ps'++ks).length (ps'++ks).length ((ps'++ks).map (fun x=>x.2.1)) ((ps'++ks).map (fun x=>x.2.2))):=by
      have:=hT0.out
      show Two _ _ _ _ _ _ _ _ _
      rw [hlen]
      exact this
     have hK9:Hid (∀ x∈ps'++ks,PqOk w.heap.size w x):=fun y hy=>by
      rcases List.mem_append.1 hy with hy|hy
      ·exact HK2.out y hy
      ·exact hks.out.2.1 y hy
     clear hT0 hT8 hkz
     go_wp2
     go_roundg ((ps'.map szQ).sum+(l.map (fun t=>szL dd t.2)).sum)
     case measure=>omega
     case rel=>exact ⟨ps'++ks,hT9,hK9,⟨by rw [hsum2];exact Nat.le_refl _,by omega⟩,hb⟩
def Pr (w:World) (X:Nat) (a:Option Addr) (cap:Nat) (ws:List Wd) (fin:Pl) (r:RsC):Prop:=
 ∃ n,Rr w X a cap ws n r.2.2/\r.1=ws.drop n/\n<=ws.length/\(r.2.2≠0->r.2.1=hereR fin r)
theorem Pr.lt {w:World}{X:Nat}{a:Option Addr}{cap:Nat}{ws:List Wd}{fin:Pl}{r:RsC}(h:Pr w X a cap ws fin r):X < w.heap.size:=by
 obtain ⟨n,h,_⟩:=h
 exact h.lt
theorem Pr.on {w w':World}{X:Nat}{a:Option Addr}{cap:Nat}{ws:List Wd}{fin:Pl}{r:RsC}(h:Pr w X a cap ws fin r) (hb:Below w.heap.size w w'):Pr w' X a cap ws fin r:=by
 obtain ⟨n,h1,h2,h3,h4⟩:=h
 exact ⟨n,h1.on hb,h2,h3,h4⟩
theorem Pr.far {w:World}{X Y i:Nat}{a:Option Addr}{cap:Nat}{ws:List Wd}{fin:Pl}{r:RsC}(h:Pr w X a cap ws fin r) (hY:X < Y) (u:Value):Pr (w.setCell ⟨Y,i,none⟩ u) X a cap ws fin r:=by
 obtain ⟨n,h1,h2,h3,h4⟩:=h
 exact ⟨n,h1.far hY u,h2,h3,h4⟩
theorem drop_cons {ws:List Wd}{n:Nat}{x:Wd}{l:List Wd}(h:x :: l=ws.drop n):n < ws.length/\l=ws.drop (n+1)/\∀ hn:n < ws.length,ws[n]=x:=by
 have hn:n < ws.length:=by
  rcases Nat.lt_or_ge n ws.length with h' | h'
  ·exact h'
  ·rw [List.drop_eq_nil_of_le h'] at h;cases h
 rw [List.drop_eq_getElem_cons hn] at h
 injection h with h1 h2
 exact ⟨hn,h2,fun _=>h1.symm⟩
theorem drop_nil {ws:List Wd}{n:Nat}(h:[]=ws.drop n) (hn:n<=ws.length):n=ws.length:=by
 have:=congrArg List.length h
 rw [List.length_drop] at this
 simp at this
 omega
theorem Pr.bad {w:World}{X n:Nat}{a:Option Addr}{cap:Nat}{ws:List Wd}{fin:Pl}{r:RsC}{e:Int}(h:Rr w X a cap ws n (if r.2.2=0 then e else r.2.2)) (h1:r.1=ws.drop n) (h2:n<=ws.length) (h3:r.2.2≠0->r.2.1=hereR fin r):Pr w X a cap ws fin (failC e (hereR fin r) r):=by
 unfold failC
 by_cases h0:r.2.2=0
 ·rw [if_pos h0] at h ⊢
  exact ⟨n,h,h1,h2,fun _=>rfl⟩
 ·rw [if_neg h0] at h ⊢
  exact ⟨n,h,h1,h2,h3⟩
theorem Pr.step {w:World}{X n:Nat}{a:Option Addr}{cap:Nat}{ws:List Wd}{fin:Pl}{r:RsC}{x:Wd}{l:List Wd}(h:Rr w X a cap ws (n+1) r.2.2) (h1:x :: l=ws.drop n) (h0:r.2.2=0):Pr w X a cap ws fin (l,r.2):=by
 obtain ⟨hn,hl,_⟩:=drop_cons h1
 exact ⟨n+1,h,hl,hn,fun e=>absurd h0 e⟩
theorem pfail_any {w:World}{X:Nat}{a:Option Addr}{cap:Nat}{ws:List Wd}{n:Nat}{b:Int}(h:Rr w X a cap ws n b) (e:Int) :
  Calls Tryz.prog 106 #[.pointer (some ⟨X,0,none⟩),.int .i64 e] w fun x w'=>(∃ u,x=.returned u)/\Rr w' X a cap ws n (if b=0 then e else b)/\Fx X w w':=by
 have hS:=h.set2 e
 obtain ⟨c0,c1,c2,f1,f2,hL⟩:=id h
 by_cases hb:b=0
 ·rw [if_pos hb]
  have i1:(b == 0)=true:=by simpa using hb
  clear hL hb
  go_enter Tryz.func106,Tryz.ntmps106
  go_wp2
  go_end0
  exact ⟨⟨_,rfl⟩,hS,(Fx.refl X w).setX _⟩
 ·rw [if_neg hb]
  have i1:(b == 0)=false:=by simpa using hb
  clear hL hb hS
  go_enter Tryz.func106,Tryz.ntmps106
  go_wp2
  go_end0
  exact ⟨⟨_,rfl⟩,h,Fx.refl X w⟩
theorem sees_any {w:World}{X:Nat}{a:Option Addr}{cap:Nat}{ws:List Wd}{fin:Pl}{r:RsC}(h:Pr w X a cap ws fin r) (hk:Wk ws cap) (t:List UInt8) :
  Calls Tryz.prog 104 #[.pointer (some ⟨X,0,none⟩),.string ⟨t.toArray⟩] w fun e w'=>e=.returned (.bool (isC t r))/\∃ m,w'=w.drewN m:=by
 obtain ⟨n,⟨c0,c1,c2,f1,f2,hL⟩,h1,h2,h3⟩:=h
 have hcap:=hk.c
 have hlen:=hk.l
 obtain ⟨b,hb⟩:∃ b,r.2.2=b:=⟨_,rfl⟩
 unfold isC
 rw [hb] at c2 ⊢
 have i2:(0:Int)<=(n:Int):=by omega
 by_cases hz:b=0
 ·subst hz
  cases hr:r.1 with
  | cons x l=>
   rw [hr] at h1
   obtain ⟨hn,_,hx⟩:=drop_cons h1
   obtain ⟨g,off,rfl,hgX,d0,d1,d2,d3⟩:=hL n hn
   have i1:(n:Int) < (ws.length:Int):=by omega
   have hd1:w.cell? ⟨g,off+n*4+1,none⟩=some (.string ⟨(tkW x).2.toArray⟩):=by rw [hx hn] at d1;exact d1
   obtain ⟨bs,hbs⟩:∃ bs,(tkW x).2=bs:=⟨_,rfl⟩
   simp only [hbs] at hd1 ⊢
   clear d0 d1 d2 d3 hL hbs h1 hx hr h2 h3
   by_cases hq:bs=t
   ·have i3:(bs == t)=true:=by rw [hq];simp
    rw [decide_eq_true hq]
    clear hq
    go_enter Tryz.func104,Tryz.ntmps104
    go_wp2
    go_quiet (fail)
    go_wp2
    go_ret
    exact ⟨rfl,_,rfl⟩
   ·have i3:(bs == t)=false:=beq_eq_false_iff_ne.2 hq
    rw [decide_eq_false hq]
    clear hq
    go_enter Tryz.func104,Tryz.ntmps104
    go_wp2
    go_quiet (fail)
    go_wp2
    go_ret
    exact ⟨rfl,_,rfl⟩
  | nil=>
   rw [hr] at h1
   have hn:=drop_nil h1 h2
   have i1:decide (n < ws.length)=false:=decide_eq_false (by omega)
   have i3:¬ n < ws.length:=by omega
   simp only [Bool.and_false]
   clear hL h1 h2 h3 hr hn
   go_enter Tryz.func104,Tryz.ntmps104
   go_wp2
   go_quiet (fail)
   go_wp2
   go_ret
   exact ⟨rfl,_,rfl⟩
 ·have i1:(b == 0)=false:=by simpa using hz
  rw [decide_eq_false hz]
  simp only [Bool.false_and]
  clear hL hz h1 h3
  go_enter Tryz.func104,Tryz.ntmps104
  go_wp2
  go_quiet (fail)
  go_wp2
  go_ret
  exact ⟨rfl,_,rfl⟩
def skR (fin:Pl) (t:List UInt8) (r:RsC):RsC:=if isC t r=true then takeR fin t r else r
theorem skR_yes {fin:Pl}{t:List UInt8}{r:RsC}(h:isC t r=true):skR fin t r=takeR fin t r:=if_pos h
theorem skR_no {fin:Pl}{t:List UInt8}{r:RsC}(h:isC t r=false):skR fin t r=r:=if_neg (by rw [h];decide)
theorem isC_cons {t:List UInt8}{r:RsC}(h:isC t r=true):r.2.2=0/\∃ x l,r.1=x :: l:=by
 refine ⟨isC_ok h,?_⟩
 unfold isC at h
 cases hr:r.1 with
 | nil=>rw [hr] at h;simp at h
 | cons x l=>exact ⟨x,l,rfl⟩
theorem skips_any {w:World}{X:Nat}{a:Option Addr}{cap:Nat}{ws:List Wd}{fin:Pl}{r:RsC}(h:Pr w X a cap ws fin r) (hk:Wk ws cap) (t:List UInt8) :
  Calls Tryz.prog 102 #[.pointer (some ⟨X,0,none⟩),.string ⟨t.toArray⟩] w fun e w'=>e=.returned (.bool (isC t r))/\Pr w' X a cap ws fin (skR fin t r)/\Fx X w w':=by
 have hS:=sees_any h hk t
 cases hi:isC t r with
 | true=>
  rw [hi] at hS
  rw [skR_yes hi]
  obtain ⟨h0,x,l,hr⟩:=isC_cons hi
  have e:takeR fin t r=(l,r.2):=by unfold takeR;rw [if_pos hi,hr];rfl
  rw [e]
  obtain ⟨n,h1,h2,h3,h4⟩:=id h
  rw [hr] at h2
  have hlen:=hk.l
  have i5:IntKind.i64.wrap ((n:Int)+1)=(n:Int)+1:=by rw [IntKind.wrap_i64];omega
  go_enter Tryz.func102,Tryz.ntmps102
  go_upto_region 3 with (first
   | (go_at_call 104;refine hS.mono ?_;rintro e w1 ⟨rfl,m,rfl⟩))
  have hR1:=h1.on (draws w m)
  have hR2:=hR1.set1 (n+1)
  have hF:Fx X w ((w.drewN m).setCell ⟨X,1,none⟩ (.int .i64 ((n+1:Nat):Int))):=((Fx.refl X w).drewN m).setX _
  obtain ⟨c0,c1,c2,f1,f2,hL⟩:=id hR1
  clear hL hS h h1 h4 hi e
  generalize w.drewN m=w1 at *
  go_wp2
  go_ret
  refine ⟨rfl,?_,?_⟩
  ·exact Pr.step hR2 h2 h0
  ·exact hF
 | false=>
  rw [hi] at hS
  rw [skR_no hi]
  go_enter Tryz.func102,Tryz.ntmps102
  go_wp2_with (first
   | (go_at_call 104;refine hS.mono ?_;rintro e w1 ⟨rfl,m,rfl⟩))
  go_ret
  exact ⟨rfl,h.on (draws w m),(Fx.refl X w).drewN m⟩
theorem must_any {w:World}{X:Nat}{a:Option Addr}{cap:Nat}{ws:List Wd}{fin:Pl}{r:RsC}(h:Pr w X a cap ws fin r) (hk:Wk ws cap) (t:List UInt8) :
  Calls Tryz.prog 99 #[.pointer (some ⟨X,0,none⟩),.string ⟨t.toArray⟩] w fun e w'=>(∃ u,e=.returned u)/\Pr w' X a cap ws fin (takeR fin t r)/\Fx X w w':=by
 have hS:=skips_any h hk t
 cases hi:isC t r with
 | true=>
  rw [hi,skR_yes hi] at hS
  go_enter Tryz.func99,Tryz.ntmps99
  go_wp2_with (first
   | (go_at_call 102;refine hS.mono ?_;rintro e w1 ⟨rfl,hp,hf⟩))
  go_end0
  exact ⟨⟨_,rfl⟩,hp,hf⟩
 | false=>
  rw [hi,skR_no hi] at hS
  rw [take_not hi]
  have hF:=fun w1 n (hr:Rr w1 X a cap ws n r.2.2)=>pfail_any hr 12
  go_enter Tryz.func99,Tryz.ntmps99
  go_wp2_with (first
   | (go_at_call 102;refine hS.mono ?_;rintro e w1 ⟨rfl,⟨n,hr,h1,h2,h3⟩,hf⟩)
   | (go_at_call 106;refine (hF _ _ hr).mono ?_;rintro e w2 ⟨⟨u,rfl⟩,hr2,hf2⟩))
  go_end0
  exact ⟨⟨_,rfl⟩,Pr.bad hr2 h1 h2 h3,hf.trans hf2⟩
theorem last_p {w:World}{X:Nat}{a:Option Addr}{cap:Nat}{ws:List Wd}{fin:Pl}{r:RsC}(h:Pr w X a cap ws fin r) (hk:Wk ws cap) :
  Calls Tryz.prog 60 #[.pointer (some ⟨X,0,none⟩)] w fun e w'=>(∃ u,e=.returned u)/\Pr w' X a cap ws fin (lastR fin r)/\Fx X w w':=by
 obtain ⟨n,h1,h2,h3,h4⟩:=id h
 have hcap:=hk.c
 have hF:=fun w1 (hr:Rr w1 X a cap ws n r.2.2)=>pfail_any hr 12
 obtain ⟨c0,c1,c2,f1,f2,hL⟩:=id h1
 clear hL
 have hlast:∀ w',Rr w' X a cap ws n (if r.2.2=0 then 12 else r.2.2)->n < ws.length->Pr w' X a cap ws fin (lastR fin r):=fun w' hr hn=>by
  have hne:r.1≠[]:=by
   rw [h2]
   intro e
   have:=congrArg List.length e
   rw [List.length_drop] at this
   simp at this
   omega
  unfold lastR
  by_cases h0:r.2.2=0
  ·rw [if_pos ⟨h0,hne⟩];exact Pr.bad hr h2 h3 h4
  ·rw [if_neg (fun e=>h0 e.1)]
   rw [if_neg h0] at hr
   exact ⟨n,hr,h2,h3,h4⟩
 by_cases hn:n < ws.length
 ·have i1:decide ((n:Int) < (ws.length:Int))=true:=decide_eq_true (by omega)
  have HL:Hid (∀ w',Rr w' X a cap ws n (if r.2.2=0 then 12 else r.2.2)->n < ws.length->Pr w' X a cap ws fin (lastR fin r)):=hlast
  obtain ⟨b,hb⟩:∃ b,r.2.2=b:=⟨_,rfl⟩
  clear hlast h2 h4
  go_enter Tryz.func60,Tryz.ntmps60
  go_wp2
  go_quiet (fail)
  have hr1:=h1.on (draws w nq)
  go_wp2_with (first
   | (go_at_call 106;refine (hF _ hr1).mono ?_;rintro e w2 ⟨⟨u,rfl⟩,hr2,hf2⟩))
  go_end0
  exact ⟨⟨_,rfl⟩,HL.out _ hr2 hn,((Fx.refl X w).drewN _).trans hf2⟩
 ·have i1:decide (n < ws.length)=false:=decide_eq_false hn
  have e:lastR fin r=r:=by
   unfold lastR
   rw [if_neg]
   rintro ⟨_,q⟩
   exact q (by rw [h2];exact List.drop_eq_nil_of_le (by omega))
  rw [e]
  clear hlast h2 h4 e
  go_enter Tryz.func60,Tryz.ntmps60
  go_wp2
  go_quiet (fail)
  go_wp2
  go_end0
  exact ⟨⟨_,rfl⟩,h.on (draws w _),(Fx.refl X w).drewN _⟩
theorem addr_plain (g i:Nat):(⟨g,0,none⟩:Addr).add i=⟨g,i,none⟩:=by unfold Addr.add;split<;>simp_all
theorem own_last1 {w:World}{base e:Nat}{v:Value}{x:Sx}{V:List Sx}(h:w.ownsRow base e 1 v (x :: V).length ((x :: V).reverse.map exX)):∃ g cap,v=.slice (some ⟨g,0,none⟩) (V.length+1) cap/\V.length+1<=cap/\cap<=maxLen/\base<=g/\g < w.heap.size/\
  w.cell? ⟨g,V.length,none⟩=some (exX x)/\(∀ j,w.frozen? ⟨g,j,none⟩=false)/\w.ownsRow base e 1 (.slice (some ⟨g,0,none⟩) (V.length+1) cap) (V.length+1) (V.reverse.map exX++[exX x]):=by
 rw [List.length_cons,List.reverse_cons,List.map_append] at h
 have hl:(V.reverse.map exX).length=V.length:=by simp
 have hc:=fun g=>World.ownsRow.cells h (g:=g)
 have h':=h
 rcases h.2 with ⟨_,h2⟩|⟨g,cap,cur,rfl,hb,hg,hnc,hcm,hcs,htake⟩
 ·omega
 ·have c0:=hc g rfl V.length (exX x) (by rw [List.getElem?_append_right (by omega),hl,Nat.sub_self];rfl)
  rw [addr_plain] at c0
  exact ⟨g,cap,rfl,hnc,hcm,hb,(Array.getElem?_eq_some_iff.1 hg).1,c0,fun j=>World.ownsRow.frozenAt h' j,h'⟩
theorem own_set1 {w:World}{base e g cap n:Nat}{xs:List Value}{a u:Value}(hn:xs.length=n) (h:w.ownsRow base e 1 (.slice (some ⟨g,0,none⟩) (n+1) cap) (n+1) (xs++[a])):(w.setCell ⟨g,n,none⟩ u).ownsRow base e 1 (.slice (some ⟨g,0,none⟩) (n+1) cap) (n+1) (xs++[u]):=by
 have:=(World.ownsRow.stored h n u).1
 subst hn
 rw [List.set_append_right _ _ Nat.le.refl,Nat.sub_self] at this
 exact this
theorem rdr_far {w:World}{X g i:Nat}{y:Yd}{vv ww:Value}(h:w.ownsRow (X+1) 347 2 ww y.W.length (cels2 y.W.reverse)) (ha:ww.ownBlock≠some g) (u:Value):(w.setCell ⟨g,i,none⟩ u).ownsRow (X+1) 347 2 ww y.W.length (cels2 y.W.reverse):=
 own_keep h (fun k hk=>Below.heap_setCell _ _ _ _ (fun e=>ha (by rw [hk];exact congrArg some e)))
theorem joinOne_bin {w:World}{X:Nat}{x z:Sx}{V:List Sx}{W:List Sg2}{o:Nat}{b:Bool}{vv ww:Value}(h:Rdr w X ⟨x :: z :: V,W,o,b⟩ vv ww) (s:Sg2) (hs:¬ s.2=6) (hl:V.length<=4000) :
  Calls Tryz.prog 299 #[.pointer (some ⟨X,0,none⟩),.agg #[.string ⟨s.1.toArray⟩,.int .i64 (s.2:Int)]] w fun e w'=>(∃ u,e=.returned u)/\(∃ vv',Rdr w' X ⟨mk2 ⟨s.1.toArray⟩ z x :: V,W,o,b⟩ vv' ww/\Fr2 X vv ww w w' vv' ww)/\Below X w w':=by
 have hb:=h.b
 have hw:=h.w
 have ha:=h.a
 obtain ⟨g,cap,rfl,h1,h2,h3,h4,c1,fz,ho⟩:=own_last1 h.v
 simp only [List.length_cons] at h1 c1 ho hb ha
 have ho2:w.ownsRow (X+1) 130 1 (.slice (some ⟨g,0,none⟩) (V.length+1) cap) (V.length+1) ((z :: V).reverse.map exX):=ownsRow_pop (by simp) ho
 have c0:w.cell? ⟨g,V.length,none⟩=some (exX z):=by
  have:=World.ownsRow.cells ho2 (g:=g) rfl V.length (exX z) (by rw [List.reverse_cons,List.map_append,List.getElem?_append_right (by simp)];simp)
  rwa [addr_plain] at this
 obtain ⟨q,hq⟩:∃ q,exX x=q:=⟨_,rfl⟩
 obtain ⟨r,hr⟩:∃ r,exX z=r:=⟨_,rfl⟩
 have hqf:=exX_form x
 have hrf:=exX_form z
 rw [hq] at c1 hqf
 rw [hr] at c0 hrf
 have l1:((s.2:Int) != 6)=true:=by simp;omega
 have i2:IntKind.i64.wrap ((V.length:Int)+1+1 - 1)=(V.length:Int)+1:=by rw [IntKind.wrap_i64];omega
 have i3:IntKind.i64.wrap ((V.length:Int)+1 - 1)=(V.length:Int):=by rw [IntKind.wrap_i64];omega
 have i4:IntKind.i64.wrap ((V.length:Int)+1)=(V.length:Int)+1:=by rw [IntKind.wrap_i64];omega
 have hbel:Below w.heap.size w (w.alloc (.cells #[.string ⟨s.1.toArray⟩,.int .i64 (s.2:Int)] 347)):=(Below.refl _ w).alloc Nat.le.refl _
 have hA:=hb.keep hbel
 have c1':=(hbel.cell (p:=⟨g,V.length+1,none⟩) h4).trans c1
 have c0':=(hbel.cell (p:=⟨g,V.length,none⟩) h4).trans c0
 have z1:=(hbel.frozen (p:=⟨g,V.length,none⟩) h4).trans (fz _)
 have ho3:=World.ownsRow.alloc ho2 (.cells #[.string ⟨s.1.toArray⟩,.int .i64 (s.2:Int)] 347)
 have hw3:=World.ownsRow.alloc hw (.cells #[.string ⟨s.1.toArray⟩,.int .i64 (s.2:Int)] 347)
 have p1:(w.alloc (.cells #[.string ⟨s.1.toArray⟩,.int .i64 (s.2:Int)] 347)).cell? ⟨w.heap.size,0,none⟩=some (.string ⟨s.1.toArray⟩):=by simp
 have p2:(w.alloc (.cells #[.string ⟨s.1.toArray⟩,.int .i64 (s.2:Int)] 347)).cell? ⟨w.heap.size,1,none⟩=some (.int .i64 (s.2:Int)):=by simp
 obtain ⟨y0,y1,y2,y3,f0,f1,f2,f3⟩:=id hA
 have j1:(V.length:Int) < (V.length:Int)+1+1:=by omega
 have j2:(V.length:Int)+1 < (V.length:Int)+1+1:=by omega
 have j3:(0:Int)<=(V.length:Int):=by omega
 have j4:(0:Int)<=(V.length:Int)+1:=by omega
 have j5:(V.length:Int)+1<=(cap:Int):=by omega
 have hu:exX (mk2 ⟨s.1.toArray⟩ z x)=.iface 198 (.agg #[.string ⟨s.1.toArray⟩,r,q]):=by rw [exX_mk2,hr,hq]
 have hXg:g≠X:=by omega
 have haw:ww.ownBlock≠some g:=ha g rfl
 have ho4:(w.alloc (.cells #[.string ⟨s.1.toArray⟩,.int .i64 (s.2:Int)] 347)).ownsRow (X+1) 130 1 (.slice (some ⟨g,0,none⟩) (V.length+1) cap) (V.length+1) (V.reverse.map exX++[exX z]):=by rw [List.reverse_cons,List.map_append] at ho3;exact ho3
 clear h hb ha hw ho ho2 ho3 c0 c1 fz hq hr
 rcases hqf with rfl|⟨qu,qy,rfl⟩<;>rcases hrf with rfl|⟨ru,ry,rfl⟩
 all_goals (
  go_enter Tryz.func299,Tryz.ntmps299
  go_wp2
  generalize w.alloc (.cells #[.string ⟨s.1.toArray⟩,.int .i64 (s.2:Int)] 347)=wa at *
  go_region
  have ho5:=own_set1 (u:=exX (mk2 ⟨s.1.toArray⟩ z x)) (by simp) ho4
  have hB:=hA.far hXg (i:=V.length) (exX (mk2 ⟨s.1.toArray⟩ z x))
  have hw4:=rdr_far (y:=⟨mk2 ⟨s.1.toArray⟩ z x :: V,W,o,b⟩) hw3 haw (exX (mk2 ⟨s.1.toArray⟩ z x)) (vv:=.nilIface) (i:=V.length)
  have hF:=(((Fr2.refl X (.slice (some ⟨g,0,none⟩) (V.length+1+1) cap) ww w).on hbel).setV (g:=g) rfl V.length (exX (mk2 ⟨s.1.toArray⟩ z x)))
  have hbel2:Below X w (wa.setCell ⟨g,V.length,none⟩ (exX (mk2 ⟨s.1.toArray⟩ z x))):=(hbel.mono (by omega)).setCell (by show X<=g;omega) _
  rw [hu] at ho5 hB hw4 hbel2 hF
  clear hA y0 y1 y2 y3 f0 f1 f2 f3 ho4 hw3 hbel c0' c1' z1 p1 p2
  obtain ⟨y0,y1,y2,y3,f0,f1,f2,f3⟩:=id hB
  generalize wa.setCell ⟨g,V.length,none⟩ _=wb at *
  go_wp2
  go_end0
  refine ⟨⟨_,rfl⟩,⟨_,Rdr.drew ⟨hB.set0 _,?_,ownsRow_setCell_below hw4 (Nat.lt_succ_self X) _,fun k hk=>?_⟩,((hF.setX 0 _).on ((Below.refl _ _).drew)).rows rfl rfl⟩,((hbel2.setCell Nat.le.refl _).drew)⟩
  ·show World.ownsRow _ _ _ _ _ (V.length+1) ((mk2 ⟨s.1.toArray⟩ z x :: V).reverse.map exX)
   rw [List.reverse_cons,List.map_append,List.map_singleton,hu]
   exact ownsRow_setCell_below ho5 (Nat.lt_succ_self X) _
  ·simp only [Value.ownBlock,Option.some.injEq] at hk
   rw [<- hk];exact haw)
