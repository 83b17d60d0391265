import Derived.Test.YtfjdceknbdmhpaaGreatDoorWvc21
import Derived.Test.YtfjdceknbdmhpaaGreatDoorWvc12
import Derived.Test.YtfjdceknbdmhpaaGreatDoorWvc14
import Derived.Test.YtfjdceknbdmhpaaGreatDoorWvc13
import Derived.Test.YtfjdceknbdmhpaaGreatDoorWvc16
import Derived.Deep.LoopGhost
/- The program's Same of ons. -/
namespace Go.Proofs.YtfjdceknbdmhpaaGreatDoor
open Go.RowKit Go.Lib
set_option linter.unusedSimpArgs false
set_option linter.unusedVariables false
attribute [local go_sem ↓] Go.wp_at_zero Go.wp_at_succ
theorem sameG {o:OnC} (h:OnOk o) (w:World):Calls Tryz.prog 130 #[gdV o.2.1,gdV o.2.1] w fun e w'=>e=.returned (.bool true)∧Below w.heap.size w w':=by
 unfold gdV
 split
 ·next hb=>exact sameX (h.2.2.1 hb) w
 ·exact sameX exOk_no w
set_option maxRecDepth 100000 in
set_option maxHeartbeats 8000000 in
theorem son2_nil (ev tg:ByteArray) (ol oc:Int) (s1 t1:Option Addr) (ns s3 t3:Nat) (w:World) (hs:∀ w1,Below w.heap.size w w1→Calls Tryz.prog 130 #[.nilIface,.nilIface] w1 fun e w'=>e=.returned (.bool true)∧Below w1.heap.size w1 w') (hq:∀ w1,Below w.heap.size w w1→Calls Tryz.prog 131 #[.slice s1 ns s3,.slice t1 ns t3,.func (.func 132) #[] #[]] w1 fun e w'=>e=.returned (.bool true)∧Below w1.heap.size w1 w'):Calls Tryz.prog 72 #[.agg #[.string ev,.nilIface,.string tg,.slice s1 ns s3,.int .i64 ol,.int .i64 oc],.agg #[.string ev,.nilIface,.string tg,.slice t1 ns t3,.int .i64 ol,.int .i64 oc]] w fun e w'=>e=.returned (.bool true)∧Below w.heap.size w w':=by
 have hal:Below w.heap.size w ((w.alloc (.cells #[.string ev,.nilIface,.string tg,.slice s1 ns s3,.int .i64 ol,.int .i64 oc] 133)).alloc (.cells #[.string ev,.nilIface,.string tg,.slice t1 ns t3,.int .i64 ol,.int .i64 oc] 133)):=((Below.refl w.heap.size w).alloc (Nat.le_refl _) _).alloc (by simp) _
 have hX:Bn ((w.alloc (.cells #[.string ev,.nilIface,.string tg,.slice s1 ns s3,.int .i64 ol,.int .i64 oc] 133)).alloc (.cells #[.string ev,.nilIface,.string tg,.slice t1 ns t3,.int .i64 ol,.int .i64 oc] 133)) w.heap.size [.string ev,.nilIface,.string tg,.slice s1 ns s3,.int .i64 ol,.int .i64 oc]:=(Bn.new w [.string ev,.nilIface,.string tg,.slice s1 ns s3,.int .i64 ol,.int .i64 oc] 133 _ rfl).on ((Below.refl _ _).alloc (Nat.le_refl _) _)
 have hY:Bn ((w.alloc (.cells #[.string ev,.nilIface,.string tg,.slice s1 ns s3,.int .i64 ol,.int .i64 oc] 133)).alloc (.cells #[.string ev,.nilIface,.string tg,.slice t1 ns t3,.int .i64 ol,.int .i64 oc] 133)) (w.heap.size+1) [.string ev,.nilIface,.string tg,.slice t1 ns t3,.int .i64 ol,.int .i64 oc]:=Bn.new (w.alloc (.cells #[.string ev,.nilIface,.string tg,.slice s1 ns s3,.int .i64 ol,.int .i64 oc] 133)) [.string ev,.nilIface,.string tg,.slice t1 ns t3,.int .i64 ol,.int .i64 oc] 133 _ (by simp)
 go_enter Tryz.func72,Tryz.ntmps72
 go_upto_region 1 with fail
 generalize ((w.alloc (.cells #[.string ev,.nilIface,.string tg,.slice s1 ns s3,.int .i64 ol,.int .i64 oc] 133)).alloc (.cells #[.string ev,.nilIface,.string tg,.slice t1 ns t3,.int .i64 ol,.int .i64 oc] 133))=wx at *
 have hB:Below wx.heap.size wx wx:=Below.refl _ _
 obtain ⟨x0,_⟩:=hX 0 _ rfl
 obtain ⟨y0,_⟩:=hY 0 _ rfl
 obtain ⟨x1,_⟩:=hX 1 _ rfl
 obtain ⟨y1,_⟩:=hY 1 _ rfl
 obtain ⟨x2,_⟩:=hX 2 _ rfl
 obtain ⟨y2,_⟩:=hY 2 _ rfl
 obtain ⟨x3,_⟩:=hX 3 _ rfl
 obtain ⟨y3,_⟩:=hY 3 _ rfl
 obtain ⟨x4,_⟩:=hX 4 _ rfl
 obtain ⟨y4,_⟩:=hY 4 _ rfl
 obtain ⟨x5,_⟩:=hX 5 _ rfl
 obtain ⟨y5,_⟩:=hY 5 _ rfl
 go_wp2_with (first
  | (go_at_call 130;refine (hs _ (hal.trans (hB.mono hal.size))).mono ?_;rintro e w1 ⟨rfl,b1⟩;have hB:=Below.nx hB b1;obtain ⟨x3,_⟩:=(hX.on hB) 3 _ rfl;obtain ⟨y3,_⟩:=(hY.on hB) 3 _ rfl)
  | (go_at_call 131;refine (hq _ (hal.trans (hB.mono hal.size))).mono ?_;rintro e w1 ⟨rfl,b1⟩;have hB:=Below.nx hB b1;skip)
  | fail)
 go_ret
 exact ⟨rfl,hal.trans (hB.mono hal.size)⟩
set_option maxRecDepth 100000 in
set_option maxHeartbeats 8000000 in
theorem son2_ifc (ev tg:ByteArray) (gu:TypeId) (gy:Value) (ol oc:Int) (s1 t1:Option Addr) (ns s3 t3:Nat) (w:World) (hs:∀ w1,Below w.heap.size w w1→Calls Tryz.prog 130 #[.iface gu gy,.iface gu gy] w1 fun e w'=>e=.returned (.bool true)∧Below w1.heap.size w1 w') (hq:∀ w1,Below w.heap.size w w1→Calls Tryz.prog 131 #[.slice s1 ns s3,.slice t1 ns t3,.func (.func 132) #[] #[]] w1 fun e w'=>e=.returned (.bool true)∧Below w1.heap.size w1 w'):Calls Tryz.prog 72 #[.agg #[.string ev,.iface gu gy,.string tg,.slice s1 ns s3,.int .i64 ol,.int .i64 oc],.agg #[.string ev,.iface gu gy,.string tg,.slice t1 ns t3,.int .i64 ol,.int .i64 oc]] w fun e w'=>e=.returned (.bool true)∧Below w.heap.size w w':=by
 have hal:Below w.heap.size w ((w.alloc (.cells #[.string ev,.iface gu gy,.string tg,.slice s1 ns s3,.int .i64 ol,.int .i64 oc] 133)).alloc (.cells #[.string ev,.iface gu gy,.string tg,.slice t1 ns t3,.int .i64 ol,.int .i64 oc] 133)):=((Below.refl w.heap.size w).alloc (Nat.le_refl _) _).alloc (by simp) _
 have hX:Bn ((w.alloc (.cells #[.string ev,.iface gu gy,.string tg,.slice s1 ns s3,.int .i64 ol,.int .i64 oc] 133)).alloc (.cells #[.string ev,.iface gu gy,.string tg,.slice t1 ns t3,.int .i64 ol,.int .i64 oc] 133)) w.heap.size [.string ev,.iface gu gy,.string tg,.slice s1 ns s3,.int .i64 ol,.int .i64 oc]:=(Bn.new w [.string ev,.iface gu gy,.string tg,.slice s1 ns s3,.int .i64 ol,.int .i64 oc] 133 _ rfl).on ((Below.refl _ _).alloc (Nat.le_refl _) _)
 have hY:Bn ((w.alloc (.cells #[.string ev,.iface gu gy,.string tg,.slice s1 ns s3,.int .i64 ol,.int .i64 oc] 133)).alloc (.cells #[.string ev,.iface gu gy,.string tg,.slice t1 ns t3,.int .i64 ol,.int .i64 oc] 133)) (w.heap.size+1) [.string ev,.iface gu gy,.string tg,.slice t1 ns t3,.int .i64 ol,.int .i64 oc]:=Bn.new (w.alloc (.cells #[.string ev,.iface gu gy,.string tg,.slice s1 ns s3,.int .i64 ol,.int .i64 oc] 133)) [.string ev,.iface gu gy,.string tg,.slice t1 ns t3,.int .i64 ol,.int .i64 oc] 133 _ (by simp)
 go_enter Tryz.func72,Tryz.ntmps72
 go_upto_region 1 with fail
 generalize ((w.alloc (.cells #[.string ev,.iface gu gy,.string tg,.slice s1 ns s3,.int .i64 ol,.int .i64 oc] 133)).alloc (.cells #[.string ev,.iface gu gy,.string tg,.slice t1 ns t3,.int .i64 ol,.int .i64 oc] 133))=wx at *
 have hB:Below wx.heap.size wx wx:=Below.refl _ _
 obtain ⟨x0,_⟩:=hX 0 _ rfl
 obtain ⟨y0,_⟩:=hY 0 _ rfl
 obtain ⟨x1,_⟩:=hX 1 _ rfl
 obtain ⟨y1,_⟩:=hY 1 _ rfl
 obtain ⟨x2,_⟩:=hX 2 _ rfl
 obtain ⟨y2,_⟩:=hY 2 _ rfl
 obtain ⟨x3,_⟩:=hX 3 _ rfl
 obtain ⟨y3,_⟩:=hY 3 _ rfl
 obtain ⟨x4,_⟩:=hX 4 _ rfl
 obtain ⟨y4,_⟩:=hY 4 _ rfl
 obtain ⟨x5,_⟩:=hX 5 _ rfl
 obtain ⟨y5,_⟩:=hY 5 _ rfl
 go_wp2_with (first
  | (go_at_call 130;refine (hs _ (hal.trans (hB.mono hal.size))).mono ?_;rintro e w1 ⟨rfl,b1⟩;have hB:=Below.nx hB b1;obtain ⟨x3,_⟩:=(hX.on hB) 3 _ rfl;obtain ⟨y3,_⟩:=(hY.on hB) 3 _ rfl)
  | (go_at_call 131;refine (hq _ (hal.trans (hB.mono hal.size))).mono ?_;rintro e w1 ⟨rfl,b1⟩;have hB:=Below.nx hB b1;skip)
  | fail)
 go_ret
 exact ⟨rfl,hal.trans (hB.mono hal.size)⟩
set_option maxRecDepth 100000 in
set_option maxHeartbeats 8000000 in
theorem eqfOn_any  {ok ok':Nat→Prop} {w:World} {l:List (OnC)} {v v':Value} (h:RdK ok w 6 (rOn ok w) l v) (h':RdK ok' w 6 (rOn ok' w) l v') (hok:∀ s∈l,OnOk s) :
  Calls Tryz.prog 71 #[v,v',.func (.func 72) #[] #[]] w fun e w'=>e=.returned (.bool true)∧Below w.heap.size w w':=by
 obtain ⟨a,cap,rfl,hlc,hcm⟩:=h.form
 obtain ⟨a',cap',rfl,hlc',hcm'⟩:=h'.form
 unfold maxLen at hcm hcm'
 have HC:=mkHid h
 have HC':=mkHid h'
 have HK:=mkHid hok
 obtain ⟨n,hn⟩:∃ n,l.length=n:=⟨_,rfl⟩
 rw [hn] at hlc hlc' ⊢
 have HN:Hid (l.length=n):=hn
 clear h h' hok hn
 go_enter Tryz.func71,Tryz.ntmps71
 go_wp2
 go_loopw [17] (fun ix wr=>∃ (i:Nat),i≤n∧ix=.int .i64 (i:Int)∧Below w.heap.size w wr) (fun ix _=>n - (RowKit.intOf ix).toNat)
 case atStart=>exact ⟨0,Nat.zero_le _,rfl,Below.refl _ _⟩
 case round=>
  obtain ⟨i,hi,rfl,hb⟩:=hrel
  by_cases hlt:i < n
  ·have hil:i < l.length:=by rw [HN.out];exact hlt
   obtain ⟨b,off,s1,s3,rfl,hbl,hSe,hc⟩:=onQ_at HC.out i hil
   obtain ⟨b',off',t1,t3,rfl,hbl',hSe',hc'⟩:=onQ_at HC'.out i hil
   have hko:=HK.out _ (List.getElem_mem hil)
   obtain ⟨o,ho⟩:∃ o,l[i]=o:=⟨_,rfl⟩
   rw [ho] at hSe hc hko hSe' hc'
   obtain ⟨ns,hns⟩:∃ m,o.2.2.2.1.length=m:=⟨_,rfl⟩
   rw [hns] at hSe hc hSe' hc'
   have hform:=gdV_form o.2.1
   have hsm:=sameG hko
   obtain ⟨gv,hgv⟩:∃ gv,gdV o.2.1=gv:=⟨_,rfl⟩
   obtain ⟨ev,tg,ol,oc,hov⟩:∃ ev tg ol oc,onV o=fun sl=>[.string ev,gdV o.2.1,.string tg,sl,.int .i64 ol,.int .i64 oc]:=⟨_,_,_,_,rfl⟩
   rw [hov] at hc hc'
   rw [hgv] at hform hsm hc hc'
   have HSE:=mkHid hSe
   have HSE':=mkHid hSe'
   have HKO:=mkHid hko
   clear ho hns hgv hov hSe hSe' hko
   have i1:(i:Int) < (n:Int):=by omega
   have i2:(0:Int)≤(i:Int):=by omega
   have C0:=(hb.cell (p:=⟨b,off+i*6+0,none⟩) hbl).trans (hc 0 _ rfl)
   have D0:=(hb.cell (p:=⟨b',off'+i*6+0,none⟩) hbl').trans (hc' 0 _ rfl)
   have C1:=(hb.cell (p:=⟨b,off+i*6+1,none⟩) hbl).trans (hc 1 _ rfl)
   have D1:=(hb.cell (p:=⟨b',off'+i*6+1,none⟩) hbl').trans (hc' 1 _ rfl)
   have C2:=(hb.cell (p:=⟨b,off+i*6+2,none⟩) hbl).trans (hc 2 _ rfl)
   have D2:=(hb.cell (p:=⟨b',off'+i*6+2,none⟩) hbl').trans (hc' 2 _ rfl)
   have C3:=(hb.cell (p:=⟨b,off+i*6+3,none⟩) hbl).trans (hc 3 _ rfl)
   have D3:=(hb.cell (p:=⟨b',off'+i*6+3,none⟩) hbl').trans (hc' 3 _ rfl)
   have C4:=(hb.cell (p:=⟨b,off+i*6+4,none⟩) hbl).trans (hc 4 _ rfl)
   have D4:=(hb.cell (p:=⟨b',off'+i*6+4,none⟩) hbl').trans (hc' 4 _ rfl)
   have C5:=(hb.cell (p:=⟨b,off+i*6+5,none⟩) hbl).trans (hc 5 _ rfl)
   have D5:=(hb.cell (p:=⟨b',off'+i*6+5,none⟩) hbl').trans (hc' 5 _ rfl)
   clear hc hc'
   rcases hform with rfl | ⟨gu,gy,rfl⟩
   ·have hal:Below wr.heap.size wr ((wr.alloc (.cells #[.string ev,.nilIface,.string tg,.slice s1 ns s3,.int .i64 ol,.int .i64 oc] 133)).alloc (.cells #[.string ev,.nilIface,.string tg,.slice t1 ns t3,.int .i64 ol,.int .i64 oc] 133)):=((Below.refl _ _).alloc (Nat.le_refl _) _).alloc (by simp) _
    have hX:Bn ((wr.alloc (.cells #[.string ev,.nilIface,.string tg,.slice s1 ns s3,.int .i64 ol,.int .i64 oc] 133)).alloc (.cells #[.string ev,.nilIface,.string tg,.slice t1 ns t3,.int .i64 ol,.int .i64 oc] 133)) wr.heap.size [.string ev,.nilIface,.string tg,.slice s1 ns s3,.int .i64 ol,.int .i64 oc]:=(Bn.new wr [.string ev,.nilIface,.string tg,.slice s1 ns s3,.int .i64 ol,.int .i64 oc] 133 _ rfl).on ((Below.refl _ _).alloc (Nat.le_refl _) _)
    have hY:Bn ((wr.alloc (.cells #[.string ev,.nilIface,.string tg,.slice s1 ns s3,.int .i64 ol,.int .i64 oc] 133)).alloc (.cells #[.string ev,.nilIface,.string tg,.slice t1 ns t3,.int .i64 ol,.int .i64 oc] 133)) (wr.heap.size+1) [.string ev,.nilIface,.string tg,.slice t1 ns t3,.int .i64 ol,.int .i64 oc]:=Bn.new (wr.alloc (.cells #[.string ev,.nilIface,.string tg,.slice s1 ns s3,.int .i64 ol,.int .i64 oc] 133)) [.string ev,.nilIface,.string tg,.slice t1 ns t3,.int .i64 ol,.int .i64 oc] 133 _ (by simp)
    have hal1:=(Below.refl wr.heap.size wr).alloc (Nat.le_refl _) (.cells #[.string ev,.nilIface,.string tg,.slice s1 ns s3,.int .i64 ol,.int .i64 oc] 133)
    have E0:=(hal1.cell (p:=⟨b',off'+i*6+0,none⟩) (Nat.lt_of_lt_of_le hbl' hb.size)).trans D0
    have E1:=(hal1.cell (p:=⟨b',off'+i*6+1,none⟩) (Nat.lt_of_lt_of_le hbl' hb.size)).trans D1
    have E2:=(hal1.cell (p:=⟨b',off'+i*6+2,none⟩) (Nat.lt_of_lt_of_le hbl' hb.size)).trans D2
    have E3:=(hal1.cell (p:=⟨b',off'+i*6+3,none⟩) (Nat.lt_of_lt_of_le hbl' hb.size)).trans D3
    have E4:=(hal1.cell (p:=⟨b',off'+i*6+4,none⟩) (Nat.lt_of_lt_of_le hbl' hb.size)).trans D4
    have E5:=(hal1.cell (p:=⟨b',off'+i*6+5,none⟩) (Nat.lt_of_lt_of_le hbl' hb.size)).trans D5
    rw [Nat.add_zero] at E0 C0
    have hbx:=hb.trans (hal.mono hb.size)
    have hcall:∀ w1,Below w.heap.size w w1→Calls Tryz.prog 72 #[.agg #[.string ev,.nilIface,.string tg,.slice s1 ns s3,.int .i64 ol,.int .i64 oc],.agg #[.string ev,.nilIface,.string tg,.slice t1 ns t3,.int .i64 ol,.int .i64 oc]] w1 fun e w'=>e=.returned (.bool true)∧Below w1.heap.size w1 w':=fun w1 b1=>son2_nil ev tg ol oc s1 t1 ns s3 t3 w1 (fun w2 _=>hsm w2) (fun w2 b2=>eqfSet_any (HSE.out.stay kp_set (ok':=ok) (fun b hb hl=>⟨hb,((b2.block b (Nat.lt_of_lt_of_le hl b1.size)).trans (b1.block b hl))⟩)) (HSE'.out.stay kp_set (ok':=ok') (fun b hb hl=>⟨hb,((b2.block b (Nat.lt_of_lt_of_le hl b1.size)).trans (b1.block b hl))⟩)) HKO.out.2.2.2.1)
    clear hsm
    go_upto_region 7 with fail
    clear C0 D0 E0 C1 D1 E1 C2 D2 E2 C3 D3 E3 C4 D4 E4 C5 D5 E5 hal1
    generalize ((wr.alloc (.cells #[.string ev,.nilIface,.string tg,.slice s1 ns s3,.int .i64 ol,.int .i64 oc] 133)).alloc (.cells #[.string ev,.nilIface,.string tg,.slice t1 ns t3,.int .i64 ol,.int .i64 oc] 133))=wx at *
    obtain ⟨x0,_⟩:=hX 0 _ rfl
    obtain ⟨y0,_⟩:=hY 0 _ rfl
    obtain ⟨x1,_⟩:=hX 1 _ rfl
    obtain ⟨y1,_⟩:=hY 1 _ rfl
    obtain ⟨x2,_⟩:=hX 2 _ rfl
    obtain ⟨y2,_⟩:=hY 2 _ rfl
    obtain ⟨x3,_⟩:=hX 3 _ rfl
    obtain ⟨y3,_⟩:=hY 3 _ rfl
    obtain ⟨x4,_⟩:=hX 4 _ rfl
    obtain ⟨y4,_⟩:=hY 4 _ rfl
    obtain ⟨x5,_⟩:=hX 5 _ rfl
    obtain ⟨y5,_⟩:=hY 5 _ rfl
    go_wp2_with (first
     | (go_at_call 72;refine (hcall _ hbx).mono ?_;rintro e w1 ⟨rfl,b1⟩)
     | fail)
    have hb2:=hbx.trans (b1.mono hbx.size)
    go_wp2
    go_roundw
    case rel=>exact ⟨i+1,hlt,by go_num,hb2⟩
    case measure=>simp [RowKit.intOf];omega
   ·have hal:Below wr.heap.size wr ((wr.alloc (.cells #[.string ev,.iface gu gy,.string tg,.slice s1 ns s3,.int .i64 ol,.int .i64 oc] 133)).alloc (.cells #[.string ev,.iface gu gy,.string tg,.slice t1 ns t3,.int .i64 ol,.int .i64 oc] 133)):=((Below.refl _ _).alloc (Nat.le_refl _) _).alloc (by simp) _
    have hX:Bn ((wr.alloc (.cells #[.string ev,.iface gu gy,.string tg,.slice s1 ns s3,.int .i64 ol,.int .i64 oc] 133)).alloc (.cells #[.string ev,.iface gu gy,.string tg,.slice t1 ns t3,.int .i64 ol,.int .i64 oc] 133)) wr.heap.size [.string ev,.iface gu gy,.string tg,.slice s1 ns s3,.int .i64 ol,.int .i64 oc]:=(Bn.new wr [.string ev,.iface gu gy,.string tg,.slice s1 ns s3,.int .i64 ol,.int .i64 oc] 133 _ rfl).on ((Below.refl _ _).alloc (Nat.le_refl _) _)
    have hY:Bn ((wr.alloc (.cells #[.string ev,.iface gu gy,.string tg,.slice s1 ns s3,.int .i64 ol,.int .i64 oc] 133)).alloc (.cells #[.string ev,.iface gu gy,.string tg,.slice t1 ns t3,.int .i64 ol,.int .i64 oc] 133)) (wr.heap.size+1) [.string ev,.iface gu gy,.string tg,.slice t1 ns t3,.int .i64 ol,.int .i64 oc]:=Bn.new (wr.alloc (.cells #[.string ev,.iface gu gy,.string tg,.slice s1 ns s3,.int .i64 ol,.int .i64 oc] 133)) [.string ev,.iface gu gy,.string tg,.slice t1 ns t3,.int .i64 ol,.int .i64 oc] 133 _ (by simp)
    have hal1:=(Below.refl wr.heap.size wr).alloc (Nat.le_refl _) (.cells #[.string ev,.iface gu gy,.string tg,.slice s1 ns s3,.int .i64 ol,.int .i64 oc] 133)
    have E0:=(hal1.cell (p:=⟨b',off'+i*6+0,none⟩) (Nat.lt_of_lt_of_le hbl' hb.size)).trans D0
    have E1:=(hal1.cell (p:=⟨b',off'+i*6+1,none⟩) (Nat.lt_of_lt_of_le hbl' hb.size)).trans D1
    have E2:=(hal1.cell (p:=⟨b',off'+i*6+2,none⟩) (Nat.lt_of_lt_of_le hbl' hb.size)).trans D2
    have E3:=(hal1.cell (p:=⟨b',off'+i*6+3,none⟩) (Nat.lt_of_lt_of_le hbl' hb.size)).trans D3
    have E4:=(hal1.cell (p:=⟨b',off'+i*6+4,none⟩) (Nat.lt_of_lt_of_le hbl' hb.size)).trans D4
    have E5:=(hal1.cell (p:=⟨b',off'+i*6+5,none⟩) (Nat.lt_of_lt_of_le hbl' hb.size)).trans D5
    rw [Nat.add_zero] at E0 C0
    have hbx:=hb.trans (hal.mono hb.size)
    have hcall:∀ w1,Below w.heap.size w w1→Calls Tryz.prog 72 #[.agg #[.string ev,.iface gu gy,.string tg,.slice s1 ns s3,.int .i64 ol,.int .i64 oc],.agg #[.string ev,.iface gu gy,.string tg,.slice t1 ns t3,.int .i64 ol,.int .i64 oc]] w1 fun e w'=>e=.returned (.bool true)∧Below w1.heap.size w1 w':=fun w1 b1=>son2_ifc ev tg gu gy ol oc s1 t1 ns s3 t3 w1 (fun w2 _=>hsm w2) (fun w2 b2=>eqfSet_any (HSE.out.stay kp_set (ok':=ok) (fun b hb hl=>⟨hb,((b2.block b (Nat.lt_of_lt_of_le hl b1.size)).trans (b1.block b hl))⟩)) (HSE'.out.stay kp_set (ok':=ok') (fun b hb hl=>⟨hb,((b2.block b (Nat.lt_of_lt_of_le hl b1.size)).trans (b1.block b hl))⟩)) HKO.out.2.2.2.1)
    clear hsm
    go_upto_region 7 with fail
    clear C0 D0 E0 C1 D1 E1 C2 D2 E2 C3 D3 E3 C4 D4 E4 C5 D5 E5 hal1
    generalize ((wr.alloc (.cells #[.string ev,.iface gu gy,.string tg,.slice s1 ns s3,.int .i64 ol,.int .i64 oc] 133)).alloc (.cells #[.string ev,.iface gu gy,.string tg,.slice t1 ns t3,.int .i64 ol,.int .i64 oc] 133))=wx at *
    obtain ⟨x0,_⟩:=hX 0 _ rfl
    obtain ⟨y0,_⟩:=hY 0 _ rfl
    obtain ⟨x1,_⟩:=hX 1 _ rfl
    obtain ⟨y1,_⟩:=hY 1 _ rfl
    obtain ⟨x2,_⟩:=hX 2 _ rfl
    obtain ⟨y2,_⟩:=hY 2 _ rfl
    obtain ⟨x3,_⟩:=hX 3 _ rfl
    obtain ⟨y3,_⟩:=hY 3 _ rfl
    obtain ⟨x4,_⟩:=hX 4 _ rfl
    obtain ⟨y4,_⟩:=hY 4 _ rfl
    obtain ⟨x5,_⟩:=hX 5 _ rfl
    obtain ⟨y5,_⟩:=hY 5 _ rfl
    go_wp2_with (first
     | (go_at_call 72;refine (hcall _ hbx).mono ?_;rintro e w1 ⟨rfl,b1⟩)
     | fail)
    have hb2:=hbx.trans (b1.mono hbx.size)
    go_wp2
    go_roundw
    case rel=>exact ⟨i+1,hlt,by go_num,hb2⟩
    case measure=>simp [RowKit.intOf];omega
  ·have i1:¬ (i:Int) < (n:Int):=by omega
   go_wp2
   go_ret
   exact ⟨rfl,hb⟩
set_option maxRecDepth 100000 in
set_option maxHeartbeats 8000000 in
theorem salo2 (sn:ByteArray) (sl sc:Int) (sb se:Bool) (sd su:ByteArray) (sw sr:Int) (p1 q1:Option Addr) (m p3 q3:Nat) (p4:Option Addr) (ni p6:Nat) (q4:Option Addr) (nj q6:Nat) (w:World) (hq:∀ w1,Below w.heap.size w w1→Calls Tryz.prog 71 #[.slice p1 m p3,.slice q1 m q3,.func (.func 72) #[] #[]] w1 fun e w'=>e=.returned (.bool true)∧Below w1.heap.size w1 w'):Calls Tryz.prog 34 #[.agg #[.string sn,.int .i64 sl,.int .i64 sc,.bool sb,.bool se,.string sd,.string su,.int .i64 sw,.int .i64 sr,.slice p1 m p3,.slice p4 ni p6],.agg #[.string sn,.int .i64 sl,.int .i64 sc,.bool sb,.bool se,.string sd,.string su,.int .i64 sw,.int .i64 sr,.slice q1 m q3,.slice q4 nj q6]] w fun e w'=>e=.returned (.bool true)∧Below w.heap.size w w':=by
 have hal:Below w.heap.size w ((w.alloc (.cells #[.string sn,.int .i64 sl,.int .i64 sc,.bool sb,.bool se,.string sd,.string su,.int .i64 sw,.int .i64 sr,.slice p1 m p3,.slice p4 ni p6] 55)).alloc (.cells #[.string sn,.int .i64 sl,.int .i64 sc,.bool sb,.bool se,.string sd,.string su,.int .i64 sw,.int .i64 sr,.slice q1 m q3,.slice q4 nj q6] 55)):=((Below.refl w.heap.size w).alloc (Nat.le_refl _) _).alloc (by simp) _
 have hX:Bn ((w.alloc (.cells #[.string sn,.int .i64 sl,.int .i64 sc,.bool sb,.bool se,.string sd,.string su,.int .i64 sw,.int .i64 sr,.slice p1 m p3,.slice p4 ni p6] 55)).alloc (.cells #[.string sn,.int .i64 sl,.int .i64 sc,.bool sb,.bool se,.string sd,.string su,.int .i64 sw,.int .i64 sr,.slice q1 m q3,.slice q4 nj q6] 55)) w.heap.size [.string sn,.int .i64 sl,.int .i64 sc,.bool sb,.bool se,.string sd,.string su,.int .i64 sw,.int .i64 sr,.slice p1 m p3,.slice p4 ni p6]:=(Bn.new w [.string sn,.int .i64 sl,.int .i64 sc,.bool sb,.bool se,.string sd,.string su,.int .i64 sw,.int .i64 sr,.slice p1 m p3,.slice p4 ni p6] 55 _ rfl).on ((Below.refl _ _).alloc (Nat.le_refl _) _)
 have hY:Bn ((w.alloc (.cells #[.string sn,.int .i64 sl,.int .i64 sc,.bool sb,.bool se,.string sd,.string su,.int .i64 sw,.int .i64 sr,.slice p1 m p3,.slice p4 ni p6] 55)).alloc (.cells #[.string sn,.int .i64 sl,.int .i64 sc,.bool sb,.bool se,.string sd,.string su,.int .i64 sw,.int .i64 sr,.slice q1 m q3,.slice q4 nj q6] 55)) (w.heap.size+1) [.string sn,.int .i64 sl,.int .i64 sc,.bool sb,.bool se,.string sd,.string su,.int .i64 sw,.int .i64 sr,.slice q1 m q3,.slice q4 nj q6]:=Bn.new (w.alloc (.cells #[.string sn,.int .i64 sl,.int .i64 sc,.bool sb,.bool se,.string sd,.string su,.int .i64 sw,.int .i64 sr,.slice p1 m p3,.slice p4 ni p6] 55)) [.string sn,.int .i64 sl,.int .i64 sc,.bool sb,.bool se,.string sd,.string su,.int .i64 sw,.int .i64 sr,.slice q1 m q3,.slice q4 nj q6] 55 _ (by simp)
 go_enter Tryz.func34,Tryz.ntmps34
 go_upto_region 1 with fail
 generalize ((w.alloc (.cells #[.string sn,.int .i64 sl,.int .i64 sc,.bool sb,.bool se,.string sd,.string su,.int .i64 sw,.int .i64 sr,.slice p1 m p3,.slice p4 ni p6] 55)).alloc (.cells #[.string sn,.int .i64 sl,.int .i64 sc,.bool sb,.bool se,.string sd,.string su,.int .i64 sw,.int .i64 sr,.slice q1 m q3,.slice q4 nj q6] 55))=wx at *
 have hB:Below wx.heap.size wx wx:=Below.refl _ _
 obtain ⟨x0,_⟩:=hX 0 _ rfl
 obtain ⟨y0,_⟩:=hY 0 _ rfl
 obtain ⟨x1,_⟩:=hX 1 _ rfl
 obtain ⟨y1,_⟩:=hY 1 _ rfl
 obtain ⟨x2,_⟩:=hX 2 _ rfl
 obtain ⟨y2,_⟩:=hY 2 _ rfl
 obtain ⟨x3,_⟩:=hX 3 _ rfl
 obtain ⟨y3,_⟩:=hY 3 _ rfl
 obtain ⟨x4,_⟩:=hX 4 _ rfl
 obtain ⟨y4,_⟩:=hY 4 _ rfl
 obtain ⟨x5,_⟩:=hX 5 _ rfl
 obtain ⟨y5,_⟩:=hY 5 _ rfl
 obtain ⟨x6,_⟩:=hX 6 _ rfl
 obtain ⟨y6,_⟩:=hY 6 _ rfl
 obtain ⟨x7,_⟩:=hX 7 _ rfl
 obtain ⟨y7,_⟩:=hY 7 _ rfl
 obtain ⟨x8,_⟩:=hX 8 _ rfl
 obtain ⟨y8,_⟩:=hY 8 _ rfl
 obtain ⟨x9,_⟩:=hX 9 _ rfl
 obtain ⟨y9,_⟩:=hY 9 _ rfl
 obtain ⟨x10,_⟩:=hX 10 _ rfl
 obtain ⟨y10,_⟩:=hY 10 _ rfl
 go_wp2_with (first
  | (go_at_call 71;refine (hq _ (hal.trans (hB.mono hal.size))).mono ?_;rintro e w1 ⟨rfl,b1⟩;have hB:=Below.nx hB b1;skip)
  | fail)
 go_ret
 exact ⟨rfl,hal.trans (hB.mono hal.size)⟩
set_option maxRecDepth 100000 in
set_option maxHeartbeats 8000000 in
theorem eqfSt_any {d:Nat} {ok ok':Nat→Prop} {w:World} {l:List (St (d+1))} {v v':Value} (h:RdK ok w 11 (rSt (d+1) ok w) l v) (h':RdK ok' w 11 (rSt (d+1) ok' w) l v') (hok:∀ s∈l,HdOk s.1) :
  Calls Tryz.prog 33 #[v,v',.func (.func 34) #[] #[]] w fun e w'=>e=.returned (.bool true)∧Below w.heap.size w w':=by
 obtain ⟨a,cap,rfl,hlc,hcm⟩:=h.form
 obtain ⟨a',cap',rfl,hlc',hcm'⟩:=h'.form
 unfold maxLen at hcm hcm'
 have HC:=mkHid h
 have HC':=mkHid h'
 have HK:=mkHid hok
 obtain ⟨n,hn⟩:∃ n,l.length=n:=⟨_,rfl⟩
 rw [hn] at hlc hlc' ⊢
 have HN:Hid (l.length=n):=hn
 clear h h' hok hn
 go_enter Tryz.func33,Tryz.ntmps33
 go_wp2
 go_loopw [17] (fun ix wr=>∃ (i:Nat),i≤n∧ix=.int .i64 (i:Int)∧Below w.heap.size w wr) (fun ix _=>n - (RowKit.intOf ix).toNat)
 case atStart=>exact ⟨0,Nat.zero_le _,rfl,Below.refl _ _⟩
 case round=>
  obtain ⟨i,hi,rfl,hb⟩:=hrel
  by_cases hlt:i < n
  ·have hil:i < l.length:=by rw [HN.out];exact hlt
   obtain ⟨b,off,p1,p3,p4,p6,rfl,hbl,hOn,hIn,hc⟩:=stQ_at HC.out i hil
   obtain ⟨b',off',q1,q3,q4,q6,rfl,hbl',hOn',hIn',hc'⟩:=stQ_at HC'.out i hil
   have hko:=HK.out _ (List.getElem_mem hil)
   obtain ⟨t,ht⟩:∃ t,l[i]=t:=⟨_,rfl⟩
   rw [ht] at hOn hIn hc hko hOn' hIn' hc'
   obtain ⟨m,hm⟩:∃ m,t.1.2.2.2.2.length=m:=⟨_,rfl⟩
   obtain ⟨ni,hni⟩:∃ m,t.2.length=m:=⟨_,rfl⟩
   rw [hm] at hOn hc hOn' hc'
   rw [hni] at hIn hc hIn' hc'
   obtain ⟨sn,sl,sc,sb,se,sd,su,sw,sr,hsv⟩:∃ sn sl sc sb se sd su sw sr,hdV t.1=fun so si=>[.string sn,.int .i64 sl,.int .i64 sc,.bool sb,.bool se,.string sd,.string su,.int .i64 sw,.int .i64 sr,so,si]:=⟨_,_,_,_,_,_,_,_,_,rfl⟩
   rw [hsv] at hc hc'
   have HON:=mkHid hOn
   have HON':=mkHid hOn'
   have HKO:=mkHid hko
   clear ht hm hni hsv hOn hIn hOn' hIn' hko
   have i1:(i:Int) < (n:Int):=by omega
   have i2:(0:Int)≤(i:Int):=by omega
   have C0:=(hb.cell (p:=⟨b,off+i*11+0,none⟩) hbl).trans (hc 0 _ rfl)
   have D0:=(hb.cell (p:=⟨b',off'+i*11+0,none⟩) hbl').trans (hc' 0 _ rfl)
   have C1:=(hb.cell (p:=⟨b,off+i*11+1,none⟩) hbl).trans (hc 1 _ rfl)
   have D1:=(hb.cell (p:=⟨b',off'+i*11+1,none⟩) hbl').trans (hc' 1 _ rfl)
   have C2:=(hb.cell (p:=⟨b,off+i*11+2,none⟩) hbl).trans (hc 2 _ rfl)
   have D2:=(hb.cell (p:=⟨b',off'+i*11+2,none⟩) hbl').trans (hc' 2 _ rfl)
   have C3:=(hb.cell (p:=⟨b,off+i*11+3,none⟩) hbl).trans (hc 3 _ rfl)
   have D3:=(hb.cell (p:=⟨b',off'+i*11+3,none⟩) hbl').trans (hc' 3 _ rfl)
   have C4:=(hb.cell (p:=⟨b,off+i*11+4,none⟩) hbl).trans (hc 4 _ rfl)
   have D4:=(hb.cell (p:=⟨b',off'+i*11+4,none⟩) hbl').trans (hc' 4 _ rfl)
   have C5:=(hb.cell (p:=⟨b,off+i*11+5,none⟩) hbl).trans (hc 5 _ rfl)
   have D5:=(hb.cell (p:=⟨b',off'+i*11+5,none⟩) hbl').trans (hc' 5 _ rfl)
   have C6:=(hb.cell (p:=⟨b,off+i*11+6,none⟩) hbl).trans (hc 6 _ rfl)
   have D6:=(hb.cell (p:=⟨b',off'+i*11+6,none⟩) hbl').trans (hc' 6 _ rfl)
   have C7:=(hb.cell (p:=⟨b,off+i*11+7,none⟩) hbl).trans (hc 7 _ rfl)
   have D7:=(hb.cell (p:=⟨b',off'+i*11+7,none⟩) hbl').trans (hc' 7 _ rfl)
   have C8:=(hb.cell (p:=⟨b,off+i*11+8,none⟩) hbl).trans (hc 8 _ rfl)
   have D8:=(hb.cell (p:=⟨b',off'+i*11+8,none⟩) hbl').trans (hc' 8 _ rfl)
   have C9:=(hb.cell (p:=⟨b,off+i*11+9,none⟩) hbl).trans (hc 9 _ rfl)
   have D9:=(hb.cell (p:=⟨b',off'+i*11+9,none⟩) hbl').trans (hc' 9 _ rfl)
   have C10:=(hb.cell (p:=⟨b,off+i*11+10,none⟩) hbl).trans (hc 10 _ rfl)
   have D10:=(hb.cell (p:=⟨b',off'+i*11+10,none⟩) hbl').trans (hc' 10 _ rfl)
   clear hc hc'
   have hal:Below wr.heap.size wr ((wr.alloc (.cells #[.string sn,.int .i64 sl,.int .i64 sc,.bool sb,.bool se,.string sd,.string su,.int .i64 sw,.int .i64 sr,.slice p1 m p3,.slice p4 ni p6] 55)).alloc (.cells #[.string sn,.int .i64 sl,.int .i64 sc,.bool sb,.bool se,.string sd,.string su,.int .i64 sw,.int .i64 sr,.slice q1 m q3,.slice q4 ni q6] 55)):=((Below.refl _ _).alloc (Nat.le_refl _) _).alloc (by simp) _
   have hX:Bn ((wr.alloc (.cells #[.string sn,.int .i64 sl,.int .i64 sc,.bool sb,.bool se,.string sd,.string su,.int .i64 sw,.int .i64 sr,.slice p1 m p3,.slice p4 ni p6] 55)).alloc (.cells #[.string sn,.int .i64 sl,.int .i64 sc,.bool sb,.bool se,.string sd,.string su,.int .i64 sw,.int .i64 sr,.slice q1 m q3,.slice q4 ni q6] 55)) wr.heap.size [.string sn,.int .i64 sl,.int .i64 sc,.bool sb,.bool se,.string sd,.string su,.int .i64 sw,.int .i64 sr,.slice p1 m p3,.slice p4 ni p6]:=(Bn.new wr [.string sn,.int .i64 sl,.int .i64 sc,.bool sb,.bool se,.string sd,.string su,.int .i64 sw,.int .i64 sr,.slice p1 m p3,.slice p4 ni p6] 55 _ rfl).on ((Below.refl _ _).alloc (Nat.le_refl _) _)
   have hY:Bn ((wr.alloc (.cells #[.string sn,.int .i64 sl,.int .i64 sc,.bool sb,.bool se,.string sd,.string su,.int .i64 sw,.int .i64 sr,.slice p1 m p3,.slice p4 ni p6] 55)).alloc (.cells #[.string sn,.int .i64 sl,.int .i64 sc,.bool sb,.bool se,.string sd,.string su,.int .i64 sw,.int .i64 sr,.slice q1 m q3,.slice q4 ni q6] 55)) (wr.heap.size+1) [.string sn,.int .i64 sl,.int .i64 sc,.bool sb,.bool se,.string sd,.string su,.int .i64 sw,.int .i64 sr,.slice q1 m q3,.slice q4 ni q6]:=Bn.new (wr.alloc (.cells #[.string sn,.int .i64 sl,.int .i64 sc,.bool sb,.bool se,.string sd,.string su,.int .i64 sw,.int .i64 sr,.slice p1 m p3,.slice p4 ni p6] 55)) [.string sn,.int .i64 sl,.int .i64 sc,.bool sb,.bool se,.string sd,.string su,.int .i64 sw,.int .i64 sr,.slice q1 m q3,.slice q4 ni q6] 55 _ (by simp)
   have hal1:=(Below.refl wr.heap.size wr).alloc (Nat.le_refl _) (.cells #[.string sn,.int .i64 sl,.int .i64 sc,.bool sb,.bool se,.string sd,.string su,.int .i64 sw,.int .i64 sr,.slice p1 m p3,.slice p4 ni p6] 55)
   have E0:=(hal1.cell (p:=⟨b',off'+i*11+0,none⟩) (Nat.lt_of_lt_of_le hbl' hb.size)).trans D0
   have E1:=(hal1.cell (p:=⟨b',off'+i*11+1,none⟩) (Nat.lt_of_lt_of_le hbl' hb.size)).trans D1
   have E2:=(hal1.cell (p:=⟨b',off'+i*11+2,none⟩) (Nat.lt_of_lt_of_le hbl' hb.size)).trans D2
   have E3:=(hal1.cell (p:=⟨b',off'+i*11+3,none⟩) (Nat.lt_of_lt_of_le hbl' hb.size)).trans D3
   have E4:=(hal1.cell (p:=⟨b',off'+i*11+4,none⟩) (Nat.lt_of_lt_of_le hbl' hb.size)).trans D4
   have E5:=(hal1.cell (p:=⟨b',off'+i*11+5,none⟩) (Nat.lt_of_lt_of_le hbl' hb.size)).trans D5
   have E6:=(hal1.cell (p:=⟨b',off'+i*11+6,none⟩) (Nat.lt_of_lt_of_le hbl' hb.size)).trans D6
   have E7:=(hal1.cell (p:=⟨b',off'+i*11+7,none⟩) (Nat.lt_of_lt_of_le hbl' hb.size)).trans D7
   have E8:=(hal1.cell (p:=⟨b',off'+i*11+8,none⟩) (Nat.lt_of_lt_of_le hbl' hb.size)).trans D8
   have E9:=(hal1.cell (p:=⟨b',off'+i*11+9,none⟩) (Nat.lt_of_lt_of_le hbl' hb.size)).trans D9
   have E10:=(hal1.cell (p:=⟨b',off'+i*11+10,none⟩) (Nat.lt_of_lt_of_le hbl' hb.size)).trans D10
   rw [Nat.add_zero] at E0 C0
   have hbx:=hb.trans (hal.mono hb.size)
   have hcall:∀ w1,Below w.heap.size w w1→Calls Tryz.prog 34 #[.agg #[.string sn,.int .i64 sl,.int .i64 sc,.bool sb,.bool se,.string sd,.string su,.int .i64 sw,.int .i64 sr,.slice p1 m p3,.slice p4 ni p6],.agg #[.string sn,.int .i64 sl,.int .i64 sc,.bool sb,.bool se,.string sd,.string su,.int .i64 sw,.int .i64 sr,.slice q1 m q3,.slice q4 ni q6]] w1 fun e w'=>e=.returned (.bool true)∧Below w1.heap.size w1 w':=fun w1 b1=>salo2 sn sl sc sb se sd su sw sr p1 q1 m p3 q3 p4 ni p6 q4 ni q6 w1 (fun w2 b2=>eqfOn_any (HON.out.stay kp_on (ok':=ok) (fun b hb hl=>⟨hb,((b2.block b (Nat.lt_of_lt_of_le hl b1.size)).trans (b1.block b hl))⟩)) (HON'.out.stay kp_on (ok':=ok') (fun b hb hl=>⟨hb,((b2.block b (Nat.lt_of_lt_of_le hl b1.size)).trans (b1.block b hl))⟩)) HKO.out.2.2.2.2)
   go_upto_region 7 with fail
   clear C0 D0 E0 C1 D1 E1 C2 D2 E2 C3 D3 E3 C4 D4 E4 C5 D5 E5 C6 D6 E6 C7 D7 E7 C8 D8 E8 C9 D9 E9 C10 D10 E10 hal1
   generalize ((wr.alloc (.cells #[.string sn,.int .i64 sl,.int .i64 sc,.bool sb,.bool se,.string sd,.string su,.int .i64 sw,.int .i64 sr,.slice p1 m p3,.slice p4 ni p6] 55)).alloc (.cells #[.string sn,.int .i64 sl,.int .i64 sc,.bool sb,.bool se,.string sd,.string su,.int .i64 sw,.int .i64 sr,.slice q1 m q3,.slice q4 ni q6] 55))=wx at *
   obtain ⟨x0,_⟩:=hX 0 _ rfl
   obtain ⟨y0,_⟩:=hY 0 _ rfl
   obtain ⟨x1,_⟩:=hX 1 _ rfl
   obtain ⟨y1,_⟩:=hY 1 _ rfl
   obtain ⟨x2,_⟩:=hX 2 _ rfl
   obtain ⟨y2,_⟩:=hY 2 _ rfl
   obtain ⟨x3,_⟩:=hX 3 _ rfl
   obtain ⟨y3,_⟩:=hY 3 _ rfl
   obtain ⟨x4,_⟩:=hX 4 _ rfl
   obtain ⟨y4,_⟩:=hY 4 _ rfl
   obtain ⟨x5,_⟩:=hX 5 _ rfl
   obtain ⟨y5,_⟩:=hY 5 _ rfl
   obtain ⟨x6,_⟩:=hX 6 _ rfl
   obtain ⟨y6,_⟩:=hY 6 _ rfl
   obtain ⟨x7,_⟩:=hX 7 _ rfl
   obtain ⟨y7,_⟩:=hY 7 _ rfl
   obtain ⟨x8,_⟩:=hX 8 _ rfl
   obtain ⟨y8,_⟩:=hY 8 _ rfl
   obtain ⟨x9,_⟩:=hX 9 _ rfl
   obtain ⟨y9,_⟩:=hY 9 _ rfl
   obtain ⟨x10,_⟩:=hX 10 _ rfl
   obtain ⟨y10,_⟩:=hY 10 _ rfl
   go_wp2_with (first
    | (go_at_call 34;refine (hcall _ hbx).mono ?_;rintro e w1 ⟨rfl,b1⟩)
    | fail)
   have hb2:=hbx.trans (b1.mono hbx.size)
   go_wp2
   go_roundw
   case rel=>exact ⟨i+1,hlt,by go_num,hb2⟩
   case measure=>simp [RowKit.intOf];omega
  ·have i1:¬ (i:Int) < (n:Int):=by omega
   go_wp2
   go_ret
   exact ⟨rfl,hb⟩
set_option maxRecDepth 100000 in
set_option maxHeartbeats 8000000 in
theorem eqVar_any {ok ok':Nat→Prop} {w:World} {l:List (List UInt8 × Int × Pl)} {v v':Value} (h:RdK ok w 4 (rVar ok w) l v) (h':RdK ok' w 4 (rVar ok' w) l v') :
  Calls Tryz.prog 32 #[v,v'] w fun e w'=>e=.returned (.bool true)∧Below w.heap.size w w':=by
 obtain ⟨a,cap,rfl,hlc,hcm⟩:=h.form
 obtain ⟨a',cap',rfl,hlc',hcm'⟩:=h'.form
 unfold maxLen at hcm hcm'
 have HC:=mkHid h
 have HC':=mkHid h'
 obtain ⟨n,hn⟩:∃ n,l.length=n:=⟨_,rfl⟩
 rw [hn] at hlc hlc' ⊢
 have HN:Hid (l.length=n):=hn
 clear h h' hn
 go_enter Tryz.func32,Tryz.ntmps32
 go_wp2
 go_loopw [13] (fun ix wr=>∃ (i:Nat),i≤n∧ix=.int .i64 (i:Int)∧Below w.heap.size w wr) (fun ix _=>n - (RowKit.intOf ix).toNat)
 case atStart=>exact ⟨0,Nat.zero_le _,rfl,Below.refl _ _⟩
 case round=>
  obtain ⟨i,hi,rfl,hb⟩:=hrel
  by_cases hlt:i < n
  ·have hil:i < l.length:=by rw [HN.out];exact hlt
   obtain ⟨b,off,rfl,hbl,hc⟩:=varQ_at HC.out i hil
   obtain ⟨b',off',rfl,hbl',hc'⟩:=varQ_at HC'.out i hil
   obtain ⟨q,hq⟩:∃ q,l[i]=q:=⟨_,rfl⟩
   rw [hq] at hc hc'
   obtain ⟨nm,x,pl,pc,hsv⟩:∃ nm x pl pc,varV q=[.string nm,.int .i64 x,.int .i64 pl,.int .i64 pc]:=⟨_,_,_,_,rfl⟩
   rw [hsv] at hc hc'
   clear hq hsv
   have i1:(i:Int) < (n:Int):=by omega
   have i2:(0:Int)≤(i:Int):=by omega
   have C0:=(hb.cell (p:=⟨b,off+i*4+0,none⟩) hbl).trans (hc 0 _ rfl)
   have D0:=(hb.cell (p:=⟨b',off'+i*4+0,none⟩) hbl').trans (hc' 0 _ rfl)
   have C1:=(hb.cell (p:=⟨b,off+i*4+1,none⟩) hbl).trans (hc 1 _ rfl)
   have D1:=(hb.cell (p:=⟨b',off'+i*4+1,none⟩) hbl').trans (hc' 1 _ rfl)
   have C2:=(hb.cell (p:=⟨b,off+i*4+2,none⟩) hbl).trans (hc 2 _ rfl)
   have D2:=(hb.cell (p:=⟨b',off'+i*4+2,none⟩) hbl').trans (hc' 2 _ rfl)
   have C3:=(hb.cell (p:=⟨b,off+i*4+3,none⟩) hbl).trans (hc 3 _ rfl)
   have D3:=(hb.cell (p:=⟨b',off'+i*4+3,none⟩) hbl').trans (hc' 3 _ rfl)
   rw [Nat.add_zero] at C0 D0
   clear hc hc'
   go_wp2
   go_region_held_law (fun w'=>w'.cell? ⟨b,off+i*4,none⟩=some (.string nm)∧w'.cell? ⟨b,off+i*4+1,none⟩=some (.int .i64 x)∧w'.cell? ⟨b,off+i*4+2,none⟩=some (.int .i64 pl)∧w'.cell? ⟨b,off+i*4+3,none⟩=some (.int .i64 pc)∧w'.cell? ⟨b',off'+i*4,none⟩=some (.string nm)∧w'.cell? ⟨b',off'+i*4+1,none⟩=some (.int .i64 x)∧w'.cell? ⟨b',off'+i*4+2,none⟩=some (.int .i64 pl)∧w'.cell? ⟨b',off'+i*4+3,none⟩=some (.int .i64 pc))
    (exact ⟨C0,C1,C2,C3,D0,D1,D2,D3⟩)
    (fail)
   all_goals (
    go_wp2
    go_roundw
    case rel=>exact ⟨i+1,hlt,by go_num,hb.drew⟩
    case measure=>simp [RowKit.intOf];omega)
  ·have i1:¬ (i:Int) < (n:Int):=by omega
   go_wp2
   go_ret
   exact ⟨rfl,hb⟩
end Go.Proofs.YtfjdceknbdmhpaaGreatDoor
/- Two rows of the call's own, that grow one by one. -/
namespace Go.Proofs.YtfjdceknbdmhpaaGreatDoor
open Go.RowKit Go.Lib
set_option linter.unusedSimpArgs false
set_option linter.unusedVariables false
structure Two (w:World) (base e:Nat) (p q:Value) (n1 n2:Nat) (xa xb:List Value):Prop where
 a:w.ownsRow base e 1 p n1 xa
 b:w.ownsRow base e 1 q n2 xb
 ne:∀ g,p.ownBlock=some g→q.ownBlock≠some g
theorem Two.symm {w:World} {base e:Nat} {p q:Value} {n1 n2:Nat} {xa xb:List Value} (h:Two w base e p q n1 n2 xa xb):Two w base e q p n2 n1 xb xa:=⟨h.b,h.a,fun g h1 h2=>h.ne g h2 h1⟩
theorem Two.alloc {w:World} {base e:Nat} {p q:Value} {n1 n2:Nat} {xa xb:List Value} (h:Two w base e p q n1 n2 xa xb) (O:Obj):Two (w.alloc O) base e p q n1 n2 xa xb:=⟨World.ownsRow.alloc h.a O,World.ownsRow.alloc h.b O,h.ne⟩
theorem Two.drew {w:World} {base e:Nat} {p q:Value} {n1 n2:Nat} {xa xb:List Value} (h:Two w base e p q n1 n2 xa xb):Two w.drew base e p q n1 n2 xa xb:=⟨h.a,h.b,h.ne⟩
theorem Two.on {w w':World} {base e:Nat} {p q:Value} {n1 n2:Nat} {xa xb:List Value} (h:Two w base e p q n1 n2 xa xb) (hb:Below w.heap.size w w'):Two w' base e p q n1 n2 xa xb:=⟨own_on h.a hb (Nat.le_refl _),own_on h.b hb (Nat.le_refl _),h.ne⟩
theorem own_formQ {w:World} {base e size:Nat} {v:Value} {n:Nat} {xs:List Value} (h:w.ownsRow base e size v n xs):∃ a cap,v=.slice a n cap∧n≤cap∧cap≤maxLen:=by
 rcases h.2 with ⟨h1,h2⟩ | ⟨g,cap,cur,h1,_,_,h3,h4,_⟩
 ·exact ⟨none,0,by rw [h1,h2],by omega,by simp [maxLen]⟩
 ·exact ⟨_,_,h1,h3,h4⟩
theorem two_push {P:Program} (w:World) {ops:Array Oper} {o:Oper} {a:Act} {K:Act→World→Prop} {Q:Exit→Act→World→Prop} {E:Prop} (hgd:o.guard=none) (s x:Operand) (t:TypeId)
  (ho:o.op=.call { callee:=.builtin .append,args:=#[s,x],argTypes:=#[t,t] })
  (base:Nat) (e:TypeId) (i:TypeInfo) (z:Value) (bytes:Nat) (ht:P.underlying t=some (.slice e)) (hi:P.info? e=some i) (hz:i.zero=some z)
  (hsize:i.size=1) (hby:i.bytes=bytes) (hzs:z.cells.size=1) (p q:Value) (n1 n2:Nat) (xa xb:List Value) (hs:a.eval s=p) (hT:Two w base e p q n1 n2 xa xb)
  (k:Nat) (u:Value) (hx:a.eval x=.slice (some ⟨k,0,none⟩) 1 1) (hc:w.cell? ⟨k,0,none⟩=some u) (h1:u.oneCell'=true) (hroom:(n1+1+(n1+1) / 4+192)*bytes≤281474976710656) (h63:n1+1≤maxLen) (hbase:base≤w.heap.size)
  (h:∀ a' cap' w',Two w' base e (.slice a' (n1+1) cap') q (n1+1) n2 (xa++[u]) xb→Below base w w'→(∀ b u',w.cell? ⟨b,0,none⟩=some u'→p.ownBlock≠some b→w'.cell? ⟨b,0,none⟩=some u')→K (a.put o.dst (.slice a' (n1+1) cap')) w') :
  if Region.wanted o (yielded ops a.tmps)=true then Oper.wp P o a w K Q else E:=by
 have hsrc:Src P 1 t (.slice (some ⟨k,0,none⟩) 1 1) 1 [u] w:=Src.ofSlice _ ht _ 1 1 _ rfl (fun j v hv=>by
  match j with
  | 0=>
   have:u=v:=by simpa using hv
   subst this
   rw [add_plain]
   exact hc
  | j+1=>simp at hv) (fun v hv=>by
  have:v=u:=by simpa using hv
  subst this
  exact h1)
 refine step_append_at _ hgd s x t t ho base e i z 1 bytes ht hi hz hsize hby hzs p n1 xa hs hT.a _ 1 [u] hx hsrc 1 (.inr hroom) (Nat.le_refl _) h63 hbase ?_
 intro v' w' hown hg hat
 obtain ⟨a',cap',rfl,_⟩:=own_formQ hown
 have hqk:=ownsRow_lt hT.b
 refine h a' cap' w' ⟨hown,ownsRow_keep hT.b (fun g hg'=>hg.block g (hqk g hg').2 (fun e=>hT.ne g e.symm hg')),fun g hg1 hg2=>?_⟩ ((Below.refl base w).grown hg hbase (fun k hk=>(ownsRow_lt hT.a k hk).1)) (fun b u' hb hne=>?_)
 ·rcases hat with h2 | h2
  ·exact hT.ne g (h2 ▸ hg1) hg2
  ·rw [h2] at hg1
   have:w.heap.size=g:=Option.some.inj hg1
   have:=(hqk g hg2).2
   omega
 ·rw [World.cell?_of_block (w:=w) (a:=⟨b,0,none⟩) (hg.block b (World.block_lt_of_cell? w _ hb) (fun e=>hne e.symm))]
  exact hb
theorem Two.pop {w:World} {base e:Nat} {p q:Value} {n:Nat} {xa xb:List Value} {u u':Value} (hn:n=xa.length) (hn':n=xb.length) (h:Two w base e p q (n+1) (n+1) (xa++[u]) (xb++[u'])):∃ g cap g' cap',p=.slice (some ⟨g,0,none⟩) (n+1) cap∧q=.slice (some ⟨g',0,none⟩) (n+1) cap'∧n+1≤cap∧cap≤maxLen∧n+1≤cap'∧cap'≤maxLen∧g < w.heap.size∧g' < w.heap.size∧w.cell? ⟨g,n,none⟩=some u∧w.cell? ⟨g',n,none⟩=some u'∧Two w base e (.slice (some ⟨g,0,none⟩) n cap) (.slice (some ⟨g',0,none⟩) n cap') n n xa xb:=by
 obtain ⟨g,cap,rfl,h1,h2,h3,h4,h5,h6⟩:=rowV_pop hn h.a
 obtain ⟨g',cap',rfl,k1,k2,k3,k4,k5,k6⟩:=rowV_pop hn' h.b
 exact ⟨g,cap,g',cap',rfl,rfl,h1,h2,k1,k2,h4,k4,h5,k5,h6,k6,fun x hx=>h.ne x hx⟩
theorem Tryz.infoRS:(Tryz.prog.info? 31).map (fun i=>(i.zero,i.size,i.bytes))=some (some (.slice none 0 0),1,24):=by kernel_rfl
/-- What is left to be compared: lists, with the two values that read as each. -/
abbrev Pq2:=Fo × Value × Value
def PqOk (N:Nat) (w:World) (x:Pq2):Prop:=FoOk x.1∧RdK (fun b=>b < N) w 11 (rSt x.1.1 (fun b=>b < N) w) x.1.2 x.2.1∧RdK (fun b=>b < N) w 11 (rSt x.1.1 (fun b=>b < N) w) x.1.2 x.2.2
theorem pq_deep {N:Nat} {w:World} {x:Pq2} (h:PqOk N w x):∃ (d:Nat) (l:List (St (d+1))),PqOk N w (⟨d+1,l⟩,x.2)∧szL x.1.1 x.1.2=szL (d+1) l:=by
 obtain ⟨⟨d,l⟩,v⟩:=x
 cases d with
 | succ d=>exact ⟨d,l,h,rfl⟩
 | zero=>
  cases l with
  | cons x _=>exact Empty.elim x
  | nil=>
   obtain ⟨h1,⟨a,cap,h2,h3,h4,_⟩,a',cap',k2,k3,k4,_⟩:=h
   exact ⟨0,[],⟨⟨by simp,fun t ht=>by cases ht⟩,⟨a,cap,h2,h3,h4,fun i hi=>absurd hi (by simp)⟩,a',cap',k2,k3,k4,fun i hi=>absurd hi (by simp)⟩,rfl⟩
end Go.Proofs.YtfjdceknbdmhpaaGreatDoor
