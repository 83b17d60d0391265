import Derived.Test.YtppefcdkgejfbaaGreatDoorXac15
import Derived.Test.YtppefcdkgejfbaaGreatDoorXac10
import Derived.Test.YtppefcdkgejfbaaGreatDoorXac12
import Derived.Test.YtppefcdkgejfbaaGreatDoorXac14
set_option maxRecDepth 100000
set_option maxHeartbeats 32000000
namespace Go.Proofs.YtppefcdkgejfbaaGreatDoor
open Go.RowKit Go.Lib
set_option linter.unusedSimpArgs false
set_option linter.unusedVariables false
attribute [local go_sem ↓] Go.wp_at_zero Go.wp_at_succ
def SetK (s:List UInt8 × Sx):Prop:=SetOk s/\cntX s.2<=1000
theorem rset_nil (s0:ByteArray) (bn be:Bool) (w:World) (hn:∀ w1,Below w.heap.size w w1->Calls Tryz.prog 95 #[.string s0] w1 fun e w'=>e=.returned (.bool bn)/\Below w1.heap.size w1 w') (he:∀ w1,Below w.heap.size w w1->Calls Tryz.prog 153 #[.nilIface] w1 fun e w'=>e=.returned (.bool be)/\Below w1.heap.size w1 w'):Calls Tryz.prog 155 #[.agg #[.string s0,.nilIface]] w fun e w'=>e=.returned (.bool (bn && be))/\Below w.heap.size w w':=by
 have hal:Below w.heap.size w (w.alloc (.cells #[.string s0,.nilIface] 120)):=(Below.refl w.heap.size w).alloc Nat.le.refl _
 have hX:Bn (w.alloc (.cells #[.string s0,.nilIface] 120)) w.heap.size [.string s0,.nilIface]:=Bn.new w [.string s0,.nilIface] 120 _ rfl
 cases bn<;>cases be
 all_goals (
  go_enter Tryz.func155,Tryz.ntmps155
  go_upto_region 1 with fail
  generalize (w.alloc (.cells #[.string s0,.nilIface] 120))=wx at *
  have hB:Below wx.heap.size wx wx:=Below.refl _ _
  have x0:=(hX 0 _ rfl).1
  have x1:=(hX 1 _ rfl).1
  go_wp2_with (first
   | (go_at_call 95;refine (hn _ (hal.trans (hB.mono hal.size))).mono ?_;rintro e w1 ⟨rfl,b1⟩;have hB:=Below.nx hB b1;obtain ⟨x1,_⟩:=(hX.on hB) 1 _ rfl)
   | (go_at_call 153;refine (he _ (hal.trans (hB.mono hal.size))).mono ?_;rintro e w1 ⟨rfl,b1⟩;have hB:=Below.nx hB b1;skip)
   | fail)
  go_ret
  exact ⟨rfl,hal.trans (hB.mono hal.size)⟩)
theorem rset_ifc (s0:ByteArray) (tu:TypeId) (ty:Value) (bn be:Bool) (w:World) (hn:∀ w1,Below w.heap.size w w1->Calls Tryz.prog 95 #[.string s0] w1 fun e w'=>e=.returned (.bool bn)/\Below w1.heap.size w1 w') (he:∀ w1,Below w.heap.size w w1->Calls Tryz.prog 153 #[.iface tu ty] w1 fun e w'=>e=.returned (.bool be)/\Below w1.heap.size w1 w'):Calls Tryz.prog 155 #[.agg #[.string s0,.iface tu ty]] w fun e w'=>e=.returned (.bool (bn && be))/\Below w.heap.size w w':=by
 have hal:Below w.heap.size w (w.alloc (.cells #[.string s0,.iface tu ty] 120)):=(Below.refl w.heap.size w).alloc Nat.le.refl _
 have hX:Bn (w.alloc (.cells #[.string s0,.iface tu ty] 120)) w.heap.size [.string s0,.iface tu ty]:=Bn.new w [.string s0,.iface tu ty] 120 _ rfl
 cases bn<;>cases be
 all_goals (
  go_enter Tryz.func155,Tryz.ntmps155
  go_upto_region 1 with fail
  generalize (w.alloc (.cells #[.string s0,.iface tu ty] 120))=wx at *
  have hB:Below wx.heap.size wx wx:=Below.refl _ _
  have x0:=(hX 0 _ rfl).1
  have x1:=(hX 1 _ rfl).1
  go_wp2_with (first
   | (go_at_call 95;refine (hn _ (hal.trans (hB.mono hal.size))).mono ?_;rintro e w1 ⟨rfl,b1⟩;have hB:=Below.nx hB b1;obtain ⟨x1,_⟩:=(hX.on hB) 1 _ rfl)
   | (go_at_call 153;refine (he _ (hal.trans (hB.mono hal.size))).mono ?_;rintro e w1 ⟨rfl,b1⟩;have hB:=Below.nx hB b1;skip)
   | fail)
  go_ret
  exact ⟨rfl,hal.trans (hB.mono hal.size)⟩)
theorem everySet_any  {ok:Nat->Prop}{w:World}{l:List (List UInt8 × Sx)}{v:Value}(h:RdK ok w 2 (rSet ok w) l v) (hok:∀ s∈l,SetK s) (hp:Pow w) :
  Calls Tryz.prog 154 #[v,.func (.func 155) #[] #[]] w fun e w'=>e=.returned (.bool (l.all (setF)))/\Below w.heap.size w w':=by
 obtain ⟨a,cap,rfl,hlc,hcm⟩:=h.form
 unfold maxLen at hcm
 have HC:=mkHid h
 have HK:=mkHid hok
 obtain ⟨n,hn⟩:∃ n,l.length=n:=⟨_,rfl⟩
 rw [hn] at hlc ⊢
 have HN:Hid (l.length=n):=hn
 obtain ⟨f,hf⟩:∃ f:(List UInt8 × Sx)->Bool,(setF)=f:=⟨_,rfl⟩
 rw [hf]
 have HF:=mkHid hf
 obtain ⟨V,HA⟩:∃ V,l.all f=V:=⟨_,rfl⟩
 rw [HA]
 have HAA:=mkHid HA
 clear h hok hn hf HA
 go_enter Tryz.func154,Tryz.ntmps154
 go_wp2
 go_loopw [9] (fun ix wr=>∃ (i:Nat),i<=n/\ix=.int .i64 (i:Int)/\Hid (∀ x∈l.take i,f x=true)/\Below w.heap.size w wr) (fun ix _=>n - (RowKit.intOf ix).toNat)
 case atStart=>exact ⟨0,Nat.zero_le _,rfl,(show Hid _ from fun x hx=>by simp at hx),Below.refl _ _⟩
 case round=>
  obtain ⟨i,hi,rfl,hT,hb⟩:=hrel
  by_cases hlt:i < n
  ·have hil:i < l.length:=by rw [HN.out];exact hlt
   have HA:=HAA.out
   obtain ⟨b,off,rfl,hbl,hc⟩:=setQ_at HC.out i hil
   have hks:=HK.out _ (List.getElem_mem hil)
   obtain ⟨q,hq⟩:∃ q,l[i]=q:=⟨_,rfl⟩
   have HQ:=mkHid hq
   rw [hq] at hc hks
   have hfx:f q=(plainB q.1 && exF q.2):=by rw [<- HF.out];rfl
   have hnm:=fun w1=>rname_any q.1 w1 hks.1.1
   have hex:=fun w1 hp=>rexp_any hks.1.2 hks.2 w1 hp
   obtain ⟨s0,hs0⟩:∃ s0,sV q.1=.string s0:=⟨_,rfl⟩
   have hform:=exX_form q.2
   obtain ⟨tv,htv⟩:∃ tv,exX q.2=tv:=⟨_,rfl⟩
   rw [hs0,htv] at hc
   rw [hs0] at hnm
   rw [htv] at hform hex
   clear hs0 htv hq hks
   have i1:(i:Int) < (n:Int):=by omega
   have i2:(0:Int)<=(i:Int):=by omega
   have C0:=(hb.cell (p:=⟨b,off+i*2+0,none⟩) hbl).trans (hc 0 _ rfl)
   have C1:=(hb.cell (p:=⟨b,off+i*2+1,none⟩) hbl).trans (hc 1 _ rfl)
   rw [Nat.add_zero] at C0
   clear hc
   rcases hform with rfl|⟨tu,ty,rfl⟩
   ·have hal:Below wr.heap.size wr (wr.alloc (.cells #[.string s0,.nilIface] 120)):=(Below.refl _ _).alloc Nat.le.refl _
    have hX:Bn (wr.alloc (.cells #[.string s0,.nilIface] 120)) wr.heap.size [.string s0,.nilIface]:=Bn.new wr [.string s0,.nilIface] 120 _ rfl
    have hbx:=hb.trans (hal.mono hb.size)
    have hcall:∀ w1,Below w.heap.size w w1->Calls Tryz.prog 155 #[.agg #[.string s0,.nilIface]] w1 fun e w'=>e=.returned (.bool (f q))/\Below w1.heap.size w1 w':=fun w1 b1=>by
     rw [hfx]
     exact rset_nil s0 _ _ w1 (fun w2 _=>hnm w2) (fun w2 b2=>hex w2 ((hp.below b1).below b2))
    clear hnm hex hfx
    have hac2:Hid (f q=true->(∀ x∈l.take (i+1),f x=true)):=fun hq=>by
     rw [List.take_succ_eq_append_getElem hil,HQ.out]
     intro x hx
     rcases List.mem_append.1 hx with hx|hx
     ·exact hT.out x hx
     ·rw [List.mem_singleton.1 hx];exact hq
    have hall:Hid (f q=false->l.all f=false):=fun hq=>by
     show l.all f=false
     rw [List.all_eq_false]
     exact ⟨q,by rw [<- HQ.out];exact List.getElem_mem hil,by rw [hq];decide⟩
    cases hfq:f q with
    | true=>
     rw [hfq] at hcall
     have hT2:Hid (∀ x∈l.take (i+1),f x=true):=hac2.out hfq
     clear hac2 hall hfq
     go_upto_region 4 with fail
     clear C0 C1
     generalize (wr.alloc (.cells #[.string s0,.nilIface] 120))=wx at *
     have x0:=(hX 0 _ rfl).1
     have x1:=(hX 1 _ rfl).1
     go_wp2_with (first
      | (go_at_call 155;refine (hcall _ hbx).mono ?_;rintro e w1 ⟨rfl,b1⟩)
      | fail)
     have hb2:=hbx.trans (b1.mono hbx.size)
     go_wp2
     go_roundw
     case rel=>exact ⟨i+1,hlt,by go_num,hT2,hb2⟩
     case measure=>simp [RowKit.intOf];omega
    | false=>
     rw [hfq] at hcall
     have hA:=hall.out hfq
     rw [hA] at HA
     subst HA
     clear hac2 hall hfq hA
     go_upto_region 4 with fail
     clear C0 C1
     generalize (wr.alloc (.cells #[.string s0,.nilIface] 120))=wx at *
     have x0:=(hX 0 _ rfl).1
     have x1:=(hX 1 _ rfl).1
     go_wp2_with (first
      | (go_at_call 155;refine (hcall _ hbx).mono ?_;rintro e w1 ⟨rfl,b1⟩)
      | fail)
     go_ret
     exact ⟨rfl,hbx.trans (b1.mono hbx.size)⟩
   ·have hal:Below wr.heap.size wr (wr.alloc (.cells #[.string s0,.iface tu ty] 120)):=(Below.refl _ _).alloc Nat.le.refl _
    have hX:Bn (wr.alloc (.cells #[.string s0,.iface tu ty] 120)) wr.heap.size [.string s0,.iface tu ty]:=Bn.new wr [.string s0,.iface tu ty] 120 _ rfl
    have hbx:=hb.trans (hal.mono hb.size)
    have hcall:∀ w1,Below w.heap.size w w1->Calls Tryz.prog 155 #[.agg #[.string s0,.iface tu ty]] w1 fun e w'=>e=.returned (.bool (f q))/\Below w1.heap.size w1 w':=fun w1 b1=>by
     rw [hfx]
     exact rset_ifc s0 tu ty _ _ w1 (fun w2 _=>hnm w2) (fun w2 b2=>hex w2 ((hp.below b1).below b2))
    clear hnm hex hfx
    have hac2:Hid (f q=true->(∀ x∈l.take (i+1),f x=true)):=fun hq=>by
     rw [List.take_succ_eq_append_getElem hil,HQ.out]
     intro x hx
     rcases List.mem_append.1 hx with hx|hx
     ·exact hT.out x hx
     ·rw [List.mem_singleton.1 hx];exact hq
    have hall:Hid (f q=false->l.all f=false):=fun hq=>by
     show l.all f=false
     rw [List.all_eq_false]
     exact ⟨q,by rw [<- HQ.out];exact List.getElem_mem hil,by rw [hq];decide⟩
    cases hfq:f q with
    | true=>
     rw [hfq] at hcall
     have hT2:Hid (∀ x∈l.take (i+1),f x=true):=hac2.out hfq
     clear hac2 hall hfq
     go_upto_region 4 with fail
     clear C0 C1
     generalize (wr.alloc (.cells #[.string s0,.iface tu ty] 120))=wx at *
     have x0:=(hX 0 _ rfl).1
     have x1:=(hX 1 _ rfl).1
     go_wp2_with (first
      | (go_at_call 155;refine (hcall _ hbx).mono ?_;rintro e w1 ⟨rfl,b1⟩)
      | fail)
     have hb2:=hbx.trans (b1.mono hbx.size)
     go_wp2
     go_roundw
     case rel=>exact ⟨i+1,hlt,by go_num,hT2,hb2⟩
     case measure=>simp [RowKit.intOf];omega
    | false=>
     rw [hfq] at hcall
     have hA:=hall.out hfq
     rw [hA] at HA
     subst HA
     clear hac2 hall hfq hA
     go_upto_region 4 with fail
     clear C0 C1
     generalize (wr.alloc (.cells #[.string s0,.iface tu ty] 120))=wx at *
     have x0:=(hX 0 _ rfl).1
     have x1:=(hX 1 _ rfl).1
     go_wp2_with (first
      | (go_at_call 155;refine (hcall _ hbx).mono ?_;rintro e w1 ⟨rfl,b1⟩)
      | fail)
     go_ret
     exact ⟨rfl,hbx.trans (b1.mono hbx.size)⟩
  ·have i1:¬ (i:Int) < (n:Int):=by omega
   have hV:V=true:=by
    rw [<- HAA.out,List.all_eq_true]
    have hf:=hT.out
    rw [List.take_of_length_le (by rw [HN.out];omega)] at hf
    exact hf
   subst hV
   go_wp2
   go_ret
   exact ⟨rfl,hb⟩
def OnK (o:OnC):Prop:=o.1.length<=140737488351232/\o.2.2.1.length<=140737488351232/\(o.2.1.1=true->ExOk o.2.1.2/\cntX o.2.1.2<=1000/\exX o.2.1.2≠.nilIface)/\∀ s∈o.2.2.2.1,SetK s
theorem sV_out (s:List UInt8) (h:s.length<=140737488351232):∃ e:ByteArray,sV s=.string e/\bl e=s/\e.size<=140737488351232:=⟨⟨s.toArray⟩,rfl,by unfold bl;simp,by show s.toArray.size<=_;simpa using h⟩
theorem rnameB (s:ByteArray) (w:World) (hs:s.size<=140737488351232):Calls Tryz.prog 95 #[.string s] w fun e w'=>e=.returned (.bool (plainB (bl s)))/\Below w.heap.size w w':=by
 have h:=rname_any (bl s) w (by unfold bl;simpa using hs)
 have e:sV (bl s)=.string s:=by unfold sV bl;simp
 rw [e] at h
 exact h
theorem rgrd_any {o:OnC}(h:OnK o):(gdV o.2.1=.nilIface/\(!o.2.1.1 || exF o.2.1.2)=true)∨∃ gu gy,gdV o.2.1=.iface gu gy/\∀ w,Pow w->Calls Tryz.prog 153 #[.iface gu gy] w fun e w'=>e=.returned (.bool (!o.2.1.1 || exF o.2.1.2))/\Below w.heap.size w w':=by
 cases hb:o.2.1.1 with
 | false=>
  left
  refine ⟨?_,rfl⟩
  unfold gdV;rw [hb];rfl
 | true=>
  right
  obtain ⟨h1,h2,h3⟩:=h.2.2.1 hb
  have hg:gdV o.2.1=exX o.2.1.2:=by unfold gdV;rw [hb];rfl
  rw [hg]
  rcases exX_form o.2.1.2 with h4|⟨u,y,h4⟩
  ·exact absurd h4 h3
  ·refine ⟨u,y,h4,fun w hw=>?_⟩
   have:=rexp_any h1 h2 w hw
   rw [h4] at this
   exact this
theorem ron_nil (ev tg:ByteArray) (ol oc:Int) (s1:Option Addr) (ns s3:Nat) (bq:Bool) (w:World) (hev:ev.size<=140737488351232) (htg:tg.size<=140737488351232) (hq:∀ w1,Below w.heap.size w w1->Calls Tryz.prog 154 #[.slice s1 ns s3,.func (.func 155) #[] #[]] w1 fun e w'=>e=.returned (.bool bq)/\Below w1.heap.size w1 w'):Calls Tryz.prog 126 #[.agg #[.string ev,.nilIface,.string tg,.slice s1 ns s3,.int .i64 ol,.int .i64 oc]] w fun e w'=>e=.returned (.bool (plainB (bl ev) && ((plainB (bl tg) && bq))))/\Below w.heap.size w w':=by
 have hal:Below w.heap.size w (w.alloc (.cells #[.string ev,.nilIface,.string tg,.slice s1 ns s3,.int .i64 ol,.int .i64 oc] 88)):=(Below.refl w.heap.size w).alloc Nat.le.refl _
 have hX:Bn (w.alloc (.cells #[.string ev,.nilIface,.string tg,.slice s1 ns s3,.int .i64 ol,.int .i64 oc] 88)) w.heap.size [.string ev,.nilIface,.string tg,.slice s1 ns s3,.int .i64 ol,.int .i64 oc]:=Bn.new w [.string ev,.nilIface,.string tg,.slice s1 ns s3,.int .i64 ol,.int .i64 oc] 88 _ rfl
 cases h1:plainB (bl ev)<;>cases h2:plainB (bl tg)<;>cases bq
 all_goals (
  go_enter Tryz.func126,Tryz.ntmps126
  go_upto_region 1 with fail
  generalize (w.alloc (.cells #[.string ev,.nilIface,.string tg,.slice s1 ns s3,.int .i64 ol,.int .i64 oc] 88))=wx at *
  have hB:Below wx.heap.size wx wx:=Below.refl _ _
  have x0:=(hX 0 _ rfl).1
  have x1:=(hX 1 _ rfl).1
  have x2:=(hX 2 _ rfl).1
  have x3:=(hX 3 _ rfl).1
  have x4:=(hX 4 _ rfl).1
  have x5:=(hX 5 _ rfl).1
  go_wp2_with (first
   | (go_at_call 95;refine (rnameB _ _ (by assumption)).mono ?_;rintro e w1 ⟨rfl,b1⟩;simp only [h1,h2];have hB:=Below.nx hB b1;obtain ⟨x1,_⟩:=(hX.on hB) 1 _ rfl;obtain ⟨x2,_⟩:=(hX.on hB) 2 _ rfl;obtain ⟨x3,_⟩:=(hX.on hB) 3 _ rfl)
   | (go_at_call 154;refine (hq _ (hal.trans (hB.mono hal.size))).mono ?_;rintro e w1 ⟨rfl,b1⟩;have hB:=Below.nx hB b1;skip)
   | fail)
  go_ret
  exact ⟨rfl,hal.trans (hB.mono hal.size)⟩)
theorem ron_ifc (ev tg:ByteArray) (gu:TypeId) (gy:Value) (ol oc:Int) (s1:Option Addr) (ns s3:Nat) (be bq:Bool) (w:World) (hev:ev.size<=140737488351232) (htg:tg.size<=140737488351232) (he:∀ w1,Below w.heap.size w w1->Calls Tryz.prog 153 #[.iface gu gy] w1 fun e w'=>e=.returned (.bool be)/\Below w1.heap.size w1 w') (hq:∀ w1,Below w.heap.size w w1->Calls Tryz.prog 154 #[.slice s1 ns s3,.func (.func 155) #[] #[]] w1 fun e w'=>e=.returned (.bool bq)/\Below w1.heap.size w1 w'):Calls Tryz.prog 126 #[.agg #[.string ev,.iface gu gy,.string tg,.slice s1 ns s3,.int .i64 ol,.int .i64 oc]] w fun e w'=>e=.returned (.bool (plainB (bl ev) && (be && (plainB (bl tg) && bq))))/\Below w.heap.size w w':=by
 have hal:Below w.heap.size w (w.alloc (.cells #[.string ev,.iface gu gy,.string tg,.slice s1 ns s3,.int .i64 ol,.int .i64 oc] 88)):=(Below.refl w.heap.size w).alloc Nat.le.refl _
 have hX:Bn (w.alloc (.cells #[.string ev,.iface gu gy,.string tg,.slice s1 ns s3,.int .i64 ol,.int .i64 oc] 88)) w.heap.size [.string ev,.iface gu gy,.string tg,.slice s1 ns s3,.int .i64 ol,.int .i64 oc]:=Bn.new w [.string ev,.iface gu gy,.string tg,.slice s1 ns s3,.int .i64 ol,.int .i64 oc] 88 _ rfl
 cases h1:plainB (bl ev)<;>cases h2:plainB (bl tg)<;>cases bq<;>cases be
 all_goals (
  go_enter Tryz.func126,Tryz.ntmps126
  go_upto_region 1 with fail
  generalize (w.alloc (.cells #[.string ev,.iface gu gy,.string tg,.slice s1 ns s3,.int .i64 ol,.int .i64 oc] 88))=wx at *
  have hB:Below wx.heap.size wx wx:=Below.refl _ _
  have x0:=(hX 0 _ rfl).1
  have x1:=(hX 1 _ rfl).1
  have x2:=(hX 2 _ rfl).1
  have x3:=(hX 3 _ rfl).1
  have x4:=(hX 4 _ rfl).1
  have x5:=(hX 5 _ rfl).1
  go_wp2_with (first
   | (go_at_call 95;refine (rnameB _ _ (by assumption)).mono ?_;rintro e w1 ⟨rfl,b1⟩;simp only [h1,h2];have hB:=Below.nx hB b1;obtain ⟨x1,_⟩:=(hX.on hB) 1 _ rfl;obtain ⟨x2,_⟩:=(hX.on hB) 2 _ rfl;obtain ⟨x3,_⟩:=(hX.on hB) 3 _ rfl)
   | (go_at_call 153;refine (he _ (hal.trans (hB.mono hal.size))).mono ?_;rintro e w1 ⟨rfl,b1⟩;have hB:=Below.nx hB b1;obtain ⟨x2,_⟩:=(hX.on hB) 2 _ rfl;obtain ⟨x3,_⟩:=(hX.on hB) 3 _ rfl)
   | (go_at_call 154;refine (hq _ (hal.trans (hB.mono hal.size))).mono ?_;rintro e w1 ⟨rfl,b1⟩;have hB:=Below.nx hB b1;skip)
   | fail)
  go_ret
  exact ⟨rfl,hal.trans (hB.mono hal.size)⟩)
theorem everyOn_any  {ok:Nat->Prop}{w:World}{l:List (OnC)}{v:Value}(h:RdK ok w 6 (rOn ok w) l v) (hok:∀ s∈l,OnK s) (hp:Pow w) :
  Calls Tryz.prog 125 #[v,.func (.func 126) #[] #[]] w fun e w'=>e=.returned (.bool (l.all (onF)))/\Below w.heap.size w w':=by
 obtain ⟨a,cap,rfl,hlc,hcm⟩:=h.form
 unfold maxLen at hcm
 have HC:=mkHid h
 have HK:=mkHid hok
 obtain ⟨n,hn⟩:∃ n,l.length=n:=⟨_,rfl⟩
 rw [hn] at hlc ⊢
 have HN:Hid (l.length=n):=hn
 obtain ⟨f,hf⟩:∃ f:(OnC)->Bool,(onF)=f:=⟨_,rfl⟩
 rw [hf]
 have HF:=mkHid hf
 obtain ⟨V,HA⟩:∃ V,l.all f=V:=⟨_,rfl⟩
 rw [HA]
 have HAA:=mkHid HA
 clear h hok hn hf HA
 go_enter Tryz.func125,Tryz.ntmps125
 go_wp2
 go_loopw [9] (fun ix wr=>∃ (i:Nat),i<=n/\ix=.int .i64 (i:Int)/\Hid (∀ x∈l.take i,f x=true)/\Below w.heap.size w wr) (fun ix _=>n - (RowKit.intOf ix).toNat)
 case atStart=>exact ⟨0,Nat.zero_le _,rfl,(show Hid _ from fun x hx=>by simp at hx),Below.refl _ _⟩
 case round=>
  obtain ⟨i,hi,rfl,hT,hb⟩:=hrel
  by_cases hlt:i < n
  ·have hil:i < l.length:=by rw [HN.out];exact hlt
   have HA:=HAA.out
   obtain ⟨b,off,s1,s3,rfl,hbl,hSe,hc⟩:=onQ_at HC.out i hil
   have hko:=HK.out _ (List.getElem_mem hil)
   obtain ⟨q,ho⟩:∃ o,l[i]=o:=⟨_,rfl⟩
   have HQ:=mkHid ho
   rw [ho] at hSe hc hko
   obtain ⟨ns,hns⟩:∃ m,q.2.2.2.1.length=m:=⟨_,rfl⟩
   rw [hns] at hSe hc
   have hgd:=rgrd_any hko
   obtain ⟨ev,hev,hevb,hevs⟩:=sV_out q.1 hko.1
   obtain ⟨tg,htg,htgb,htgs⟩:=sV_out q.2.2.1 hko.2.1
   have hfx:f q=(plainB (bl ev) && ((!q.2.1.1 || exF q.2.1.2) && (plainB (bl tg) && q.2.2.2.1.all setF))):=by rw [<- HF.out,hevb,htgb];rfl
   obtain ⟨gv,hgv⟩:∃ gv,gdV q.2.1=gv:=⟨_,rfl⟩
   obtain ⟨be,hbe⟩:∃ be,(!q.2.1.1 || exF q.2.1.2)=be:=⟨_,rfl⟩
   obtain ⟨ol,oc,hov⟩:∃ ol oc,onV q=fun sl=>[sV q.1,gdV q.2.1,sV q.2.2.1,sl,.int .i64 ol,.int .i64 oc]:=⟨_,_,rfl⟩
   rw [hov] at hc
   rw [hev,htg,hgv] at hc
   rw [hgv,hbe] at hgd
   rw [hbe] at hfx
   have HSE:=mkHid hSe
   have HKO:=mkHid hko
   clear ho hns hgv hov hSe hko hev htg hevb htgb hbe
   have i1:(i:Int) < (n:Int):=by omega
   have i2:(0:Int)<=(i:Int):=by omega
   have C0:=(hb.cell (p:=⟨b,off+i*6+0,none⟩) hbl).trans (hc 0 _ rfl)
   have C1:=(hb.cell (p:=⟨b,off+i*6+1,none⟩) hbl).trans (hc 1 _ rfl)
   have C2:=(hb.cell (p:=⟨b,off+i*6+2,none⟩) hbl).trans (hc 2 _ rfl)
   have C3:=(hb.cell (p:=⟨b,off+i*6+3,none⟩) hbl).trans (hc 3 _ rfl)
   have C4:=(hb.cell (p:=⟨b,off+i*6+4,none⟩) hbl).trans (hc 4 _ rfl)
   have C5:=(hb.cell (p:=⟨b,off+i*6+5,none⟩) hbl).trans (hc 5 _ rfl)
   rw [Nat.add_zero] at C0
   clear hc
   rcases hgd with ⟨rfl,rfl⟩|⟨gu,gy,rfl,hex⟩
   ·have hal:Below wr.heap.size wr (wr.alloc (.cells #[.string ev,.nilIface,.string tg,.slice s1 ns s3,.int .i64 ol,.int .i64 oc] 88)):=(Below.refl _ _).alloc Nat.le.refl _
    have hX:Bn (wr.alloc (.cells #[.string ev,.nilIface,.string tg,.slice s1 ns s3,.int .i64 ol,.int .i64 oc] 88)) wr.heap.size [.string ev,.nilIface,.string tg,.slice s1 ns s3,.int .i64 ol,.int .i64 oc]:=Bn.new wr [.string ev,.nilIface,.string tg,.slice s1 ns s3,.int .i64 ol,.int .i64 oc] 88 _ rfl
    have hbx:=hb.trans (hal.mono hb.size)
    have hcall:∀ w1,Below w.heap.size w w1->Calls Tryz.prog 126 #[.agg #[.string ev,.nilIface,.string tg,.slice s1 ns s3,.int .i64 ol,.int .i64 oc]] w1 fun e w'=>e=.returned (.bool (f q))/\Below w1.heap.size w1 w':=fun w1 b1=>by
     rw [hfx]
     exact ron_nil ev tg ol oc s1 ns s3 _ w1 hevs htgs (fun w2 b2=>everySet_any (HSE.out.stay kp_set (ok':=ok) (fun b hb hl=>⟨hb,((b2.block b (Nat.lt_of_lt_of_le hl b1.size)).trans (b1.block b hl))⟩)) HKO.out.2.2.2 ((hp.below b1).below b2))
    clear hfx hevs htgs
    have hac2:Hid (f q=true->(∀ x∈l.take (i+1),f x=true)):=fun hq=>by
     rw [List.take_succ_eq_append_getElem hil,HQ.out]
     intro x hx
     rcases List.mem_append.1 hx with hx|hx
     ·exact hT.out x hx
     ·rw [List.mem_singleton.1 hx];exact hq
    have hall:Hid (f q=false->l.all f=false):=fun hq=>by
     show l.all f=false
     rw [List.all_eq_false]
     exact ⟨q,by rw [<- HQ.out];exact List.getElem_mem hil,by rw [hq];decide⟩
    cases hfq:f q with
    | true=>
     rw [hfq] at hcall
     have hT2:Hid (∀ x∈l.take (i+1),f x=true):=hac2.out hfq
     clear hac2 hall hfq
     go_upto_region 4 with fail
     clear C0 C1 C2 C3 C4 C5
     generalize (wr.alloc (.cells #[.string ev,.nilIface,.string tg,.slice s1 ns s3,.int .i64 ol,.int .i64 oc] 88))=wx at *
     have x0:=(hX 0 _ rfl).1
     have x1:=(hX 1 _ rfl).1
     have x2:=(hX 2 _ rfl).1
     have x3:=(hX 3 _ rfl).1
     have x4:=(hX 4 _ rfl).1
     have x5:=(hX 5 _ rfl).1
     go_wp2_with (first
      | (go_at_call 126;refine (hcall _ hbx).mono ?_;rintro e w1 ⟨rfl,b1⟩)
      | fail)
     have hb2:=hbx.trans (b1.mono hbx.size)
     go_wp2
     go_roundw
     case rel=>exact ⟨i+1,hlt,by go_num,hT2,hb2⟩
     case measure=>simp [RowKit.intOf];omega
    | false=>
     rw [hfq] at hcall
     have hA:=hall.out hfq
     rw [hA] at HA
     subst HA
     clear hac2 hall hfq hA
     go_upto_region 4 with fail
     clear C0 C1 C2 C3 C4 C5
     generalize (wr.alloc (.cells #[.string ev,.nilIface,.string tg,.slice s1 ns s3,.int .i64 ol,.int .i64 oc] 88))=wx at *
     have x0:=(hX 0 _ rfl).1
     have x1:=(hX 1 _ rfl).1
     have x2:=(hX 2 _ rfl).1
     have x3:=(hX 3 _ rfl).1
     have x4:=(hX 4 _ rfl).1
     have x5:=(hX 5 _ rfl).1
     go_wp2_with (first
      | (go_at_call 126;refine (hcall _ hbx).mono ?_;rintro e w1 ⟨rfl,b1⟩)
      | fail)
     go_ret
     exact ⟨rfl,hbx.trans (b1.mono hbx.size)⟩
   ·have hal:Below wr.heap.size wr (wr.alloc (.cells #[.string ev,.iface gu gy,.string tg,.slice s1 ns s3,.int .i64 ol,.int .i64 oc] 88)):=(Below.refl _ _).alloc Nat.le.refl _
    have hX:Bn (wr.alloc (.cells #[.string ev,.iface gu gy,.string tg,.slice s1 ns s3,.int .i64 ol,.int .i64 oc] 88)) wr.heap.size [.string ev,.iface gu gy,.string tg,.slice s1 ns s3,.int .i64 ol,.int .i64 oc]:=Bn.new wr [.string ev,.iface gu gy,.string tg,.slice s1 ns s3,.int .i64 ol,.int .i64 oc] 88 _ rfl
    have hbx:=hb.trans (hal.mono hb.size)
    have hcall:∀ w1,Below w.heap.size w w1->Calls Tryz.prog 126 #[.agg #[.string ev,.iface gu gy,.string tg,.slice s1 ns s3,.int .i64 ol,.int .i64 oc]] w1 fun e w'=>e=.returned (.bool (f q))/\Below w1.heap.size w1 w':=fun w1 b1=>by
     rw [hfx]
     exact ron_ifc ev tg gu gy ol oc s1 ns s3 _ _ w1 hevs htgs (fun w2 b2=>hex w2 ((hp.below b1).below b2)) (fun w2 b2=>everySet_any (HSE.out.stay kp_set (ok':=ok) (fun b hb hl=>⟨hb,((b2.block b (Nat.lt_of_lt_of_le hl b1.size)).trans (b1.block b hl))⟩)) HKO.out.2.2.2 ((hp.below b1).below b2))
    clear hfx hevs htgs hex
    have hac2:Hid (f q=true->(∀ x∈l.take (i+1),f x=true)):=fun hq=>by
     rw [List.take_succ_eq_append_getElem hil,HQ.out]
     intro x hx
     rcases List.mem_append.1 hx with hx|hx
     ·exact hT.out x hx
     ·rw [List.mem_singleton.1 hx];exact hq
    have hall:Hid (f q=false->l.all f=false):=fun hq=>by
     show l.all f=false
     rw [List.all_eq_false]
     exact ⟨q,by rw [<- HQ.out];exact List.getElem_mem hil,by rw [hq];decide⟩
    cases hfq:f q with
    | true=>
     rw [hfq] at hcall
     have hT2:Hid (∀ x∈l.take (i+1),f x=true):=hac2.out hfq
     clear hac2 hall hfq
     go_upto_region 4 with fail
     clear C0 C1 C2 C3 C4 C5
     generalize (wr.alloc (.cells #[.string ev,.iface gu gy,.string tg,.slice s1 ns s3,.int .i64 ol,.int .i64 oc] 88))=wx at *
     have x0:=(hX 0 _ rfl).1
     have x1:=(hX 1 _ rfl).1
     have x2:=(hX 2 _ rfl).1
     have x3:=(hX 3 _ rfl).1
     have x4:=(hX 4 _ rfl).1
     have x5:=(hX 5 _ rfl).1
     go_wp2_with (first
      | (go_at_call 126;refine (hcall _ hbx).mono ?_;rintro e w1 ⟨rfl,b1⟩)
      | fail)
     have hb2:=hbx.trans (b1.mono hbx.size)
     go_wp2
     go_roundw
     case rel=>exact ⟨i+1,hlt,by go_num,hT2,hb2⟩
     case measure=>simp [RowKit.intOf];omega
    | false=>
     rw [hfq] at hcall
     have hA:=hall.out hfq
     rw [hA] at HA
     subst HA
     clear hac2 hall hfq hA
     go_upto_region 4 with fail
     clear C0 C1 C2 C3 C4 C5
     generalize (wr.alloc (.cells #[.string ev,.iface gu gy,.string tg,.slice s1 ns s3,.int .i64 ol,.int .i64 oc] 88))=wx at *
     have x0:=(hX 0 _ rfl).1
     have x1:=(hX 1 _ rfl).1
     have x2:=(hX 2 _ rfl).1
     have x3:=(hX 3 _ rfl).1
     have x4:=(hX 4 _ rfl).1
     have x5:=(hX 5 _ rfl).1
     go_wp2_with (first
      | (go_at_call 126;refine (hcall _ hbx).mono ?_;rintro e w1 ⟨rfl,b1⟩)
      | fail)
     go_ret
     exact ⟨rfl,hbx.trans (b1.mono hbx.size)⟩
  ·have i1:¬ (i:Int) < (n:Int):=by omega
   have hV:V=true:=by
    rw [<- HAA.out,List.all_eq_true]
    have hf:=hT.out
    rw [List.take_of_length_le (by rw [HN.out];omega)] at hf
    exact hf
   subst hV
   go_wp2
   go_ret
   exact ⟨rfl,hb⟩
def gX (g:Bool × Sx):Sx:=if g.1=true then g.2 else noX
theorem gdV_gX (g:Bool × Sx):gdV g=exX (gX g):=by
 unfold gdV gX
 split
 ·rfl
 ·exact exX_no.symm
def rfX (x:Sx):List ByteArray:=rfT x.1 x.2
def ExK (x:Sx):Prop:=ExOk x/\cntX x<=1000
theorem exK_no:ExK noX:=⟨exOk_no,by decide⟩
theorem exK_g {o:OnC}(h:OnK o):ExK (gX o.2.1):=by
 unfold gX
 split
 ·rename_i hg
  exact ⟨(h.2.2.1 hg).1,(h.2.2.1 hg).2.1⟩
 ·exact exK_no
theorem rdT_of {w:World}{v:Value}{ls:List ByteArray}(h:RdS w v ls):RdK (fun _=>True) w 1 (rTx (fun _=>True) w) ls v:=by
 have hc:=fun g=>World.ownsRow.cells h (g:=g)
 have hlt:=fun g=>World.ownsRow.lt h g
 rcases h.2 with ⟨rfl,hn⟩|⟨g,cap,cur,rfl,hb,hg,hnc,hcm,_⟩
 ·have:ls=[]:=List.eq_nil_of_length_eq_zero hn
  subst this
  exact rdK_none _ _ _ _
 ·refine ⟨some ⟨g,0,none⟩,cap,rfl,hnc,hcm,fun i hi=>⟨g,0,[.string ls[i]],rfl,trivial,(Array.getElem?_eq_some_iff.1 hg).1,rfl,rfl,fun j u hu=>?_⟩⟩
  have hj:j=0:=by
   have:=(List.getElem?_eq_some_iff.1 hu).1
   simp at this
   exact this
  subst hj
  simp only [List.getElem?_cons_zero,Option.some.injEq] at hu
  subst hu
  have:=hc g rfl i (.string ls[i]) (by unfold cS;rw [List.getElem?_map,List.getElem?_eq_getElem hi];rfl)
  rw [add_plain,Nat.zero_add] at this
  simpa using this
def unE (vs:List (List UInt8 × Int × Pl)) (ls:List ByteArray):Bool:=decide (0<=ixF (atB ls (fun s=>decide (fdV vs s < 0))) ls.length 0)
def stU (vs:List (List UInt8 × Int × Pl)) (s:List UInt8 × Sx):Bool:=decide (fdV vs ⟨s.1.toArray⟩ < 0) || unE vs (rfX s.2)
def unO (vs:List (List UInt8 × Int × Pl)) (o:OnC):Bool:=unE vs (rfX (gX o.2.1)) || decide (0<=ixF (atB o.2.2.2.1 (stU vs)) o.2.2.2.1.length 0)
theorem noV_any {ok:Nat->Prop}{W:World}{Lb d:Nat}{c:ChG d}{fs:List (Int × SgS)}(h:Ly ok W Lb c fs) (hl:c.2.2.1.length<=1000000) (nm:ByteArray) :
  Calls Tryz.prog 165 #[.pointer (some ⟨Lb,0,none⟩),.string nm] W fun e w'=>e=.returned (.bool (decide (fdV c.2.2.1 nm < 0)))/\Below W.heap.size W w':=by
 have hc:=varL_any h hl nm
 obtain ⟨F,hF⟩:∃ F,fdV c.2.2.1 nm=F:=⟨_,rfl⟩
 rw [hF] at hc ⊢
 clear h hF
 go_enter Tryz.func165,Tryz.ntmps165
 by_cases h1:F < 0
 ·go_wp2_with (first|(go_at_call 130;refine hc.mono ?_;rintro e w1 ⟨rfl,b1⟩)|fail)
  go_ret
  exact ⟨by simp [h1],b1⟩
 ·go_wp2_with (first|(go_at_call 130;refine hc.mono ?_;rintro e w1 ⟨rfl,b1⟩)|fail)
  go_ret
  exact ⟨by simp [h1],b1⟩
theorem asU_any {ok:Nat->Prop}{W:World}{Lb d:Nat}{c:ChG d}{fs:List (Int × SgS)}(h:Ly ok W Lb c fs) (hl:c.2.2.1.length<=1000000) {x:Sx}(hx:ExK x) (hrl:(rfX x).length<=1000000) :
  Calls Tryz.prog 137 #[.pointer (some ⟨Lb,0,none⟩),exX x] W fun e w'=>e=.returned (.bool (unE c.2.2.1 (rfX x)))/\Below W.heap.size W w':=by
 have hr:=refs_anyP W hx.1.1 hx.2 hx.1.2.2
 have hr2:Calls Tryz.prog 24 #[exX x] W fun e w'=>∃ ua un uc,e=.returned (.slice ua un uc)/\Hid (RdK (fun _=>True) w' 1 (rTx (fun _=>True) w') (rfX x) (.slice ua un uc))/\Below W.heap.size W w':=hr.mono (fun e w' hh=>by
  obtain ⟨u,q1,q2,q3⟩:=hh
  have q4:=rdT_of q2
  obtain ⟨ua,uc,rfl,_⟩:=q4.form
  exact ⟨ua,_,uc,q1,q4,q3⟩)
 have hc:∀ w1 ua un uc,Below W.heap.size W w1->Hid (RdK (fun _=>True) w1 1 (rTx (fun _=>True) w1) (rfX x) (.slice ua un uc))->Calls Tryz.prog 164 #[.slice ua un uc,.func (.func 165) #[.pointer (some ⟨Lb,0,none⟩)] #[]] w1 fun e w'=>e=.returned (.bool (unE c.2.2.1 (rfX x)))/\Below w1.heap.size w1 w':=fun w1 ua un uc b1 hh=>
  cfT_any hh.out hrl 165 #[.pointer (some ⟨Lb,0,none⟩)] #[] _ (enters_of Tryz.func165 (by kernel_rfl) rfl) (fun i hi cs W' hr hb=>by
   have hcs:cs=[.string (rfX x)[i]]:=hr
   subst hcs
   have:=noV_any ((h.on b1).on hb) hl (rfX x)[i]
   rw [<- atB_of (p:=fun s=>decide (fdV c.2.2.1 s < 0)) hi] at this
   exact this)
 obtain ⟨R,hR⟩:∃ R,unE c.2.2.1 (rfX x)=R:=⟨_,rfl⟩
 rw [hR] at hc ⊢
 rcases exX_form x with hq|⟨u,y,hq⟩
 all_goals (
  rw [hq] at hr2 ⊢
  clear h hR hq hr
  go_enter Tryz.func137,Tryz.ntmps137
  go_wp2_with (first
   | (go_at_call 24;refine hr2.mono ?_;rintro e w1 ⟨ua,un,uc,rfl,hrd,b1⟩)
   | (go_at_call 164;refine (hc _ _ _ _ b1 hrd).mono ?_;rintro e w2 ⟨rfl,b2⟩)
   | fail)
  go_ret
  exact ⟨rfl,b1.trans (b2.mono b1.size)⟩)
theorem seU_any {ok ok':Nat->Prop}{w W:World}{Lb d:Nat}{c:ChG d}{fs:List (Int × SgS)}(h:Ly ok W Lb c fs) (hl:c.2.2.1.length<=1000000) {s:List UInt8 × Sx}{cs:List Value}(hr:rSet ok' w s cs) (hx:ExK s.2) (hrl:(rfX s.2).length<=1000000) :
  Calls Tryz.prog 139 #[.pointer (some ⟨Lb,0,none⟩),.agg cs.toArray] W fun e w'=>e=.returned (.bool (stU c.2.2.1 s))/\Below W.heap.size W w':=by
 obtain ⟨s0,hs0⟩:∃ s0:ByteArray,⟨s.1.toArray⟩=s0:=⟨_,rfl⟩
 have hcs:cs=[.string s0,exX s.2]:=by rw [<- hs0];exact hr
 subst hcs
 have hn:=fun W1 (b:Below W.heap.size W W1)=>noV_any (h.on b) hl s0
 have ha:=fun W1 (b:Below W.heap.size W W1)=>asU_any (h.on b) hl hx hrl
 have HE:Hid (stU c.2.2.1 s=(decide (fdV c.2.2.1 s0 < 0) || unE c.2.2.1 (rfX s.2))):=by
  show _=_
  unfold stU
  rw [hs0]
 rw [HE.out]
 obtain ⟨A,hA⟩:∃ A,decide (fdV c.2.2.1 s0 < 0)=A:=⟨_,rfl⟩
 obtain ⟨B,hB⟩:∃ B,unE c.2.2.1 (rfX s.2)=B:=⟨_,rfl⟩
 rw [hA] at hn ⊢
 rw [hB] at ha ⊢
 have hf:=exX_form s.2
 obtain ⟨tv,htv⟩:∃ tv,exX s.2=tv:=⟨_,rfl⟩
 rw [htv] at hf ha ⊢
 clear h hr hA hB htv HE hs0
 rcases hf with rfl|⟨tu,ty,rfl⟩
 ·have hal:Below W.heap.size W (W.alloc (.cells #[.string s0,.nilIface] 120)):=(Below.refl _ _).alloc Nat.le.refl _
  have hX:=Bn.new W [.string s0,.nilIface] 120 _ rfl
  go_enter Tryz.func139,Tryz.ntmps139
  cases A with
  | true=>
   go_wp2_with (first
    | (go_at_call 165;refine (hn _ hal).mono ?_;rintro e w1 ⟨rfl,b1⟩;have bw:=hal.trans (b1.mono hal.size);obtain ⟨x1,_⟩:=(hX.on b1) 1 _ rfl)
    | fail)
   go_ret
   exact ⟨rfl,bw⟩
  | false=>
   go_wp2_with (first
    | (go_at_call 165;refine (hn _ hal).mono ?_;rintro e w1 ⟨rfl,b1⟩;have bw:=hal.trans (b1.mono hal.size);obtain ⟨x1,_⟩:=(hX.on b1) 1 _ rfl)
    | (go_at_call 137;refine (ha _ bw).mono ?_;rintro e w2 ⟨rfl,b2⟩)
    | fail)
   go_ret
   exact ⟨rfl,bw.trans (b2.mono bw.size)⟩
 ·have hal:Below W.heap.size W (W.alloc (.cells #[.string s0,.iface tu ty] 120)):=(Below.refl _ _).alloc Nat.le.refl _
  have hX:=Bn.new W [.string s0,.iface tu ty] 120 _ rfl
  go_enter Tryz.func139,Tryz.ntmps139
  cases A with
  | true=>
   go_wp2_with (first
    | (go_at_call 165;refine (hn _ hal).mono ?_;rintro e w1 ⟨rfl,b1⟩;have bw:=hal.trans (b1.mono hal.size);obtain ⟨x1,_⟩:=(hX.on b1) 1 _ rfl)
    | fail)
   go_ret
   exact ⟨rfl,bw⟩
  | false=>
   go_wp2_with (first
    | (go_at_call 165;refine (hn _ hal).mono ?_;rintro e w1 ⟨rfl,b1⟩;have bw:=hal.trans (b1.mono hal.size);obtain ⟨x1,_⟩:=(hX.on b1) 1 _ rfl)
    | (go_at_call 137;refine (ha _ bw).mono ?_;rintro e w2 ⟨rfl,b2⟩)
    | fail)
   go_ret
   exact ⟨rfl,bw.trans (b2.mono bw.size)⟩
structure OnQ (o:OnC):Prop where
 g:ExK (gX o.2.1)
 gl:(rfX (gX o.2.1)).length<=1000000
 s:∀ s∈o.2.2.2.1,ExK s.2/\(rfX s.2).length<=1000000
 l:o.2.2.2.1.length<=1000000
theorem un1_body {ok:Nat->Prop}{w W:World}{Lb d:Nat}{c:ChG d}{fs:List (Int × SgS)}(h:Ly ok W Lb c fs) (hl:c.2.2.1.length<=1000000) {o:OnC}(ho:OnQ o) {s1:Option Addr}{ns s3:Nat}(hs:RdK ok w 2 (rSet ok w) o.2.2.2.1 (.slice s1 ns s3)) (hw:Below w.heap.size w W) :
  ∀ W1,Below W.heap.size W W1->Calls Tryz.prog 138 #[.slice s1 ns s3,.func (.func 139) #[.pointer (some ⟨Lb,0,none⟩)] #[]] W1 fun e w'=>e=.returned (.bool (decide (0<=ixF (atB o.2.2.2.1 (stU c.2.2.1)) o.2.2.2.1.length 0)))/\Below W1.heap.size W1 w':=fun W1 b1=>
 cfE_any (hs.stay kp_set (ok':=ok) (w':=W1) (fun b hb hl=>⟨hb,(hw.trans (b1.mono hw.size)).block b hl⟩)) ho.l 139 #[.pointer (some ⟨Lb,0,none⟩)] #[] _ (enters_of Tryz.func139 (by kernel_rfl) rfl) (fun i hi cs W' hr hb=>by
  have:=seU_any ((h.on b1).on hb) hl hr (ho.s _ (List.getElem_mem hi)).1 (ho.s _ (List.getElem_mem hi)).2
  rw [<- atB_of (p:=stU c.2.2.1) hi] at this
  exact this)
theorem un1_any {ok:Nat->Prop}{w W:World}{Lb d:Nat}{c:ChG d}{fs:List (Int × SgS)}(h:Ly ok W Lb c fs) (hl:c.2.2.1.length<=1000000) {o:OnC}(ho:OnQ o) {cs:List Value}(hr:rOn ok w o cs) (hw:Below w.heap.size w W) (X0:Nat) (h0:Bn W X0 [.pointer (some ⟨Lb,0,none⟩)]) (i:Int) :
  Calls Tryz.prog 136 #[.int .i64 i,.agg cs.toArray,.pointer (some ⟨X0,0,none⟩)] W fun e w'=>e=.returned (.bool (unO c.2.2.1 o))/\Below W.heap.size W w':=by
 obtain ⟨sl,rfl,hs⟩:=hr
 obtain ⟨s1,s3,rfl,_⟩:=hs.form
 have ha:=fun W1 (b:Below W.heap.size W W1)=>asU_any (h.on b) hl ho.g ho.gl
 have hb0:=un1_body h hl ho hs hw
 obtain ⟨A,hA⟩:∃ A,unE c.2.2.1 (rfX (gX o.2.1))=A:=⟨_,rfl⟩
 obtain ⟨B,hB⟩:∃ B,decide (0<=ixF (atB o.2.2.2.1 (stU c.2.2.1)) o.2.2.2.1.length 0)=B:=⟨_,rfl⟩
 have HE:Hid (unO c.2.2.1 o=(A || B)):=by show _=_;unfold unO;rw [hA,hB]
 rw [HE.out]
 rw [hA] at ha
 rw [hB] at hb0
 obtain ⟨ns,hns⟩:∃ ns,o.2.2.2.1.length=ns:=⟨_,rfl⟩
 obtain ⟨ev,tg,ol,oc,hov⟩:∃ ev tg ol oc,onV o (.slice s1 o.2.2.2.1.length s3)=[.string ev,gdV o.2.1,.string tg,.slice s1 o.2.2.2.1.length s3,.int .i64 ol,.int .i64 oc]:=⟨_,_,_,_,rfl⟩
 rw [hov,gdV_gX]
 rw [hns] at hb0 ⊢
 have hf:=exX_form (gX o.2.1)
 obtain ⟨tv,htv⟩:∃ tv,exX (gX o.2.1)=tv:=⟨_,rfl⟩
 rw [htv] at hf ha ⊢
 clear h hA hB htv HE hov hs ho hns
 rcases hf with rfl|⟨tu,ty,rfl⟩
 ·have hal:Below W.heap.size W (W.alloc (.cells #[.string ev,.nilIface,.string tg,.slice s1 ns s3,.int .i64 ol,.int .i64 oc] 88)):=(Below.refl _ _).alloc Nat.le.refl _
  have hX:=Bn.new W [.string ev,.nilIface,.string tg,.slice s1 ns s3,.int .i64 ol,.int .i64 oc] 88 _ rfl
  have h0':=h0.on hal
  obtain ⟨x0,_⟩:=h0' 0 _ rfl
  go_enter Tryz.func136,Tryz.ntmps136
  cases A with
  | true=>
   go_wp2_with (first
    | (go_at_call 137;refine (ha _ hal).mono ?_;rintro e w1 ⟨rfl,b1⟩;have bw:=hal.trans (b1.mono hal.size);obtain ⟨x3,_⟩:=(hX.on b1) 3 _ rfl;obtain ⟨x0',_⟩:=(h0'.on b1) 0 _ rfl)
    | fail)
   go_ret
   exact ⟨rfl,bw⟩
  | false=>
   go_wp2_with (first
    | (go_at_call 137;refine (ha _ hal).mono ?_;rintro e w1 ⟨rfl,b1⟩;have bw:=hal.trans (b1.mono hal.size);obtain ⟨x3,_⟩:=(hX.on b1) 3 _ rfl;obtain ⟨x0',_⟩:=(h0'.on b1) 0 _ rfl)
    | (go_at_call 138;refine (hb0 _ bw).mono ?_;rintro e w2 ⟨rfl,b2⟩)
    | fail)
   go_ret
   exact ⟨rfl,bw.trans (b2.mono bw.size)⟩
 ·have hal:Below W.heap.size W (W.alloc (.cells #[.string ev,.iface tu ty,.string tg,.slice s1 ns s3,.int .i64 ol,.int .i64 oc] 88)):=(Below.refl _ _).alloc Nat.le.refl _
  have hX:=Bn.new W [.string ev,.iface tu ty,.string tg,.slice s1 ns s3,.int .i64 ol,.int .i64 oc] 88 _ rfl
  have h0':=h0.on hal
  obtain ⟨x0,_⟩:=h0' 0 _ rfl
  go_enter Tryz.func136,Tryz.ntmps136
  cases A with
  | true=>
   go_wp2_with (first
    | (go_at_call 137;refine (ha _ hal).mono ?_;rintro e w1 ⟨rfl,b1⟩;have bw:=hal.trans (b1.mono hal.size);obtain ⟨x3,_⟩:=(hX.on b1) 3 _ rfl;obtain ⟨x0',_⟩:=(h0'.on b1) 0 _ rfl)
    | fail)
   go_ret
   exact ⟨rfl,bw⟩
  | false=>
   go_wp2_with (first
    | (go_at_call 137;refine (ha _ hal).mono ?_;rintro e w1 ⟨rfl,b1⟩;have bw:=hal.trans (b1.mono hal.size);obtain ⟨x3,_⟩:=(hX.on b1) 3 _ rfl;obtain ⟨x0',_⟩:=(h0'.on b1) 0 _ rfl)
    | (go_at_call 138;refine (hb0 _ bw).mono ?_;rintro e w2 ⟨rfl,b2⟩)
    | fail)
   go_ret
   exact ⟨rfl,bw.trans (b2.mono bw.size)⟩
def dnB (ev:ByteArray):Bool:=ev.toList == [100,111,110,101]
def onEv (o:OnC):ByteArray:=⟨o.1.toArray⟩
def onTg (o:OnC):ByteArray:=⟨o.2.2.1.toArray⟩
def meO (P:Nat->Int) (j:Nat):Nat->Int->Int
 | 0,_=>-1
 | f+1,a=>if a < 0 then -1 else if okR P a (P j+1).toNat (P j)=true then a else meO P j f (P a.toNat)
theorem meO_more {n:Nat}{P:Nat->Int}(hP:Ahd n P) (j:Nat):∀ (f:Nat) (c:Int),-1<=c->c < f->c < n->meO P j f c=meO P j (c+1).toNat c
 | 0,c,h0,h,hc=>by
  have:c = -1:=by omega
  subst this
  rfl
 | f+1,c,h0,h,hc=>by
  by_cases hz:c < 0
  ·have:c = -1:=by omega
   subst this
   show meO P j (f+1) (-1)=meO P j 0 (-1)
   unfold meO
   simp
  ·obtain ⟨k,hk⟩:∃ k,(c+1).toNat=k+1:=⟨c.toNat,by omega⟩
   rw [hk]
   unfold meO
   rw [if_neg hz,if_neg hz]
   obtain ⟨q1,q2⟩:=hP c.toNat (by omega)
   rw [meO_more hP j f (P c.toNat) q1 (by omega) (by omega),meO_more hP j k (P c.toNat) q1 (by omega) (by omega)]
theorem meO_step {n:Nat}{P:Nat->Int}(hP:Ahd n P) (j:Nat) {k:Nat}(hk:k < n):meO P j ((k:Int)+1).toNat k=if okR P k (P j+1).toNat (P j)=true then (k:Int) else meO P j (P k+1).toNat (P k):=by
 have e:((k:Int)+1).toNat=k+1:=by omega
 rw [e]
 conv=>lhs;unfold meO
 rw [if_neg (by omega)]
 obtain ⟨q1,q2⟩:=hP k hk
 rw [Int.toNat_natCast,meO_more hP j k (P k) q1 (by omega) (by omega)]
theorem meO_lt {n:Nat}{P:Nat->Int}(hP:Ahd n P) (j:Nat):∀ (f:Nat) (c:Int),c < n->-1<=meO P j f c/\meO P j f c < n
 | 0,c,h=>by unfold meO;omega
 | f+1,c,h=>by
  unfold meO
  split
  ·omega
  ·split
   ·omega
   ·have:=hP c.toNat (by omega)
    exact meO_lt hP j f (P c.toNat) (by omega)
def paF (fs:List (Int × SgS)) (i:Nat):Int:=match fs[i]? with
 | some x=>x.1
 | none=>-1
def meF (fs:List (Int × SgS)) (i j:Nat):Int:=meO (paF fs) j (paF fs i+1).toNat (paF fs i)
def leB (fs:List (Int × SgS)) (i j:Nat):Bool:=decide (0<=meF fs i j) && atB fs (fun x=>(sgH x.2).2.1.1) (meF fs i j).toNat
def asB (fs:List (Int × SgS)) (i:Nat) (t:Int):Bool:=decide (t < 0) || leB fs i t.toNat
theorem mi1_any {ok:Nat->Prop}{W:World}{Lb d:Nat}{c:ChG d}{fs:List (Int × SgS)}(h:Ly ok W Lb c fs) (hst:∀ x∈fs,StOk x.2.1 x.2.2) (X0:Nat) (h0:Bn W X0 [.pointer (some ⟨Lb,0,none⟩)]) (i:Nat) (hi:i < fs.length) :
  Calls Tryz.prog 140 #[.int .i64 (i:Int),.pointer (some ⟨X0,0,none⟩)] W fun e w'=>e=.returned (.bool (miK (fs[i]).2))/\Below W.heap.size W w':=by
 obtain ⟨g0,g1,g2,g3,g4,g6,g7,g8,g9,sa,sc0,oa,oc,k1,k2,k3,k4,k5⟩:=h
 have x0:=(h0 0 _ rfl).1
 have c6:=(k1 6 _ rfl).1
 obtain ⟨b,off,cs,rfl,_,hbl,_,hr,hc⟩:=rdK_at k3 i hi
 have hm:=miK_any hr (hst _ (List.getElem_mem hi)) (Below.refl _ W)
 obtain ⟨sn,sl,sc,sb,se,sd,su,sw,sr,p1,p3,p4,p6,rfl,_,_⟩:=sg_let hr
 obtain ⟨no,hno⟩:∃ no,(sgO fs[i].2).length=no:=⟨_,rfl⟩
 obtain ⟨ni,hni⟩:∃ no,sgI fs[i].2=no:=⟨_,rfl⟩
 rw [hno,hni] at hc hm
 obtain ⟨R,hR⟩:∃ R,miK (fs[i]).2=R:=⟨_,rfl⟩
 rw [hR] at hm ⊢
 obtain ⟨n,hn⟩:∃ n,fs.length=n:=⟨_,rfl⟩
 rw [hn] at c6 hi
 have i1:(i:Int) < (n:Int):=by omega
 have i2:(0:Int)<=(i:Int):=by omega
 have C0:=hc 0 _ rfl
 have C1:=hc 1 _ rfl
 have C2:=hc 2 _ rfl
 have C3:=hc 3 _ rfl
 have C4:=hc 4 _ rfl
 have C5:=hc 5 _ rfl
 have C6:=hc 6 _ rfl
 have C7:=hc 7 _ rfl
 have C8:=hc 8 _ rfl
 have C9:=hc 9 _ rfl
 have C10:=hc 10 _ rfl
 rw [Nat.add_zero] at C0
 clear hc hr hno hni hR hn k1 k2 k3 k4 k5 h0 hst
 go_enter Tryz.func140,Tryz.ntmps140
 go_wp2_with (first|(go_at_call 141;refine hm.mono ?_;rintro e w1 ⟨rfl,b1⟩)|fail)
 go_ret
 exact ⟨rfl,b1⟩
theorem mi2_any {ok:Nat->Prop}{W:World}{Lb d:Nat}{c:ChG d}{fs:List (Int × SgS)}(h:Ly ok W Lb c fs) (X0:Nat) (h0:Bn W X0 [.pointer (some ⟨Lb,0,none⟩)]) (i:Nat) (hi:i < fs.length) (j:Nat) (hj:j < (sgO (fs[i]).2).length) :
  Calls Tryz.prog 142 #[.int .i64 (i:Int),.int .i64 (j:Int),.pointer (some ⟨X0,0,none⟩)] W fun e w'=>e=.returned (.bool (dnB (onEv (sgO (fs[i]).2)[j]) && !stpB (sgD (fs[i]).2)))/\Below W.heap.size W w':=by
 obtain ⟨g0,g1,g2,g3,g4,g6,g7,g8,g9,sa,sc0,oa,oc,k1,k2,k3,k4,k5⟩:=h
 have x0:=(h0 0 _ rfl).1
 have c6:=(k1 6 _ rfl).1
 obtain ⟨b,off,cs,rfl,_,hbl,_,hr,hc⟩:=rdK_at k3 i hi
 obtain ⟨sn,sl,sc,sb,se,sd,su,sw,sr,p1,p3,p4,p6,rfl,HS,hon⟩:=sg_let hr
 obtain ⟨ob,ooff,ev,gv,tg,s1,ns,s3,ol,oc',rfl,_,hobl,hgv,HON,_,hoc⟩:=onE_at hon j hj
 have hev:onEv (sgO (fs[i]).2)[j]=ev:=by
  obtain ⟨sl2,he,_⟩:=HON.out
  unfold onV at he
  simp only [List.cons.injEq,sV,Value.string.injEq] at he
  exact he.1.symm
 have hsd:sgD (fs[i]).2=sd:=HS.out.2.2.2.2.1.symm
 rw [hev,hsd]
 have D0:=hoc 0 _ rfl
 rw [Nat.add_zero] at D0
 obtain ⟨no,hno⟩:∃ no,(sgO fs[i].2).length=no:=⟨_,rfl⟩
 obtain ⟨ni,hni⟩:∃ no,sgI fs[i].2=no:=⟨_,rfl⟩
 rw [hno,hni] at hc
 rw [hno] at hj
 obtain ⟨n,hn⟩:∃ n,fs.length=n:=⟨_,rfl⟩
 rw [hn] at c6 hi
 have i1:(i:Int) < (n:Int):=by omega
 have i2:(0:Int)<=(i:Int):=by omega
 have j1:(j:Int) < (no:Int):=by omega
 have j2:(0:Int)<=(j:Int):=by omega
 have C0:=hc 0 _ rfl
 have C1:=hc 1 _ rfl
 have C2:=hc 2 _ rfl
 have C3:=hc 3 _ rfl
 have C4:=hc 4 _ rfl
 have C5:=hc 5 _ rfl
 have C6:=hc 6 _ rfl
 have C7:=hc 7 _ rfl
 have C8:=hc 8 _ rfl
 have C9:=hc 9 _ rfl
 have C10:=hc 10 _ rfl
 rw [Nat.add_zero] at C0
 have hs:=step_any W sn sl sc sb se sd su sw sr (some ⟨ob,ooff,none⟩) no p3 p4 ni p6
 obtain ⟨A,hA⟩:∃ A,stpB sd=A:=⟨_,rfl⟩
 rw [hA] at hs ⊢
 obtain ⟨D,hD⟩:∃ D,dnB ev=D:=⟨_,rfl⟩
 rw [hD]
 unfold dnB at hD
 clear hc hoc hr hno hni hA hn k1 k2 k3 k4 k5 h0 HON HS hon hev hsd hgv
 go_enter Tryz.func142,Tryz.ntmps142
 cases D with
 | false=>
  go_wp2
  go_ret
  exact ⟨rfl,Below.refl _ _⟩
 | true=>
  go_wp2_with (first|(go_at_call 143;refine hs.mono ?_;rintro e w1 ⟨rfl,b1⟩)|fail)
  go_ret
  exact ⟨rfl,b1⟩
theorem meetL_any {ok:Nat->Prop}{W:World}{Lb d:Nat}{c:ChG d}{fs:List (Int × SgS)}(h:Ly ok W Lb c fs) (hA:Ahd fs.length (paF fs)) (hl:fs.length<=1000000) (i:Nat) (hi:i < fs.length) (j:Nat) (hj:j < fs.length) :
  Calls Tryz.prog 168 #[.pointer (some ⟨Lb,0,none⟩),.int .i64 (i:Int),.int .i64 (j:Int)] W fun e w'=>e=.returned (.int .i64 (meF fs i j))/\Below W.heap.size W w':=by
 obtain ⟨g0,g1,g2,g3,g4,g6,g7,g8,g9,sa,sc0,oa,oc,k1,k2,k3,k4,k5⟩:=h
 have c7:=(k1 7 _ rfl).1
 have hcell:∀ k,k < fs.length->∃ b off,oa=some ⟨b,off,none⟩/\W.cell? ⟨b,off+k,none⟩=some (.int .i64 (paF fs k)):=fun k hk=>by
  obtain ⟨b,off,cs,he,_,_,_,hr,hc⟩:=rdK_at k4 k hk
  refine ⟨b,off,he,?_⟩
  have hcs:cs=[.int .i64 (fs[k]).1]:=hr
  subst hcs
  have:=hc 0 _ rfl
  rw [Nat.mul_one,Nat.add_zero] at this
  rw [this]
  unfold paF
  rw [List.getElem?_eq_getElem hk]
 obtain ⟨b,off,rfl,hxx⟩:=hcell i hi
 clear hxx
 have hcell2:∀ k,k < fs.length->W.cell? ⟨b,off+k,none⟩=some (.int .i64 (paF fs k)):=fun k hk=>by
  obtain ⟨b2,off2,he,h2⟩:=hcell k hk
  simp only [Option.some.injEq,Addr.mk.injEq,and_true] at he
  obtain ⟨rfl,rfl⟩:=he
  exact h2
 have HC:=mkHid hcell2
 have HA:=mkHid hA
 obtain ⟨P,hP⟩:∃ P,paF fs=P:=⟨_,rfl⟩
 have HM:Hid (meF fs i j=meO P j (P i+1).toNat (P i)):=by show _=_;unfold meF;rw [hP]
 obtain ⟨n,hn⟩:∃ n,fs.length=n:=⟨_,rfl⟩
 rw [hP,hn] at HC HA
 rw [hn] at c7 hi hj hl
 clear hcell hcell2 k1 k2 k3 k4 k5 hP hA hn
 have i1:(i:Int) < (n:Int):=by omega
 have i2:(0:Int)<=(i:Int):=by omega
 have j1:(j:Int) < (n:Int):=by omega
 have j2:(0:Int)<=(j:Int):=by omega
 have C1:=HC.out i hi
 have C2:=HC.out j hj
 have q1:=HA.out i hi
 have q2:=HA.out j hj
 obtain ⟨pi,hpi⟩:∃ x,P i=x:=⟨_,rfl⟩
 obtain ⟨pj,hpj⟩:∃ x,P j=x:=⟨_,rfl⟩
 rw [hpi] at C1 q1 HM
 rw [hpj] at C2 q2
 have HPJ:=mkHid hpj
 clear hpi hpj
 go_enter Tryz.func168,Tryz.ntmps168
 go_wp2
 go_loop [7] (fun s=>∃ (a:Int),-1<=a/\a < n/\s=.int .i64 a/\Hid (meF fs i j=meO P j (a+1).toNat a)) (fun s=>(RowKit.intOf s+1).toNat)
 case atStart=>exact ⟨pi,q1.1,by omega,rfl,HM⟩
 case round=>
  obtain ⟨a,ha0,ha1,rfl,HO⟩:=hrel
  by_cases hneg:a < 0
  ·have HE:Hid (meF fs i j = -1):=by
    show _=_
    rw [HO.out]
    have:a = -1:=by omega
    rw [this]
    rfl
   have i5:¬ (0:Int)<=a:=by omega
   go_wp2
   go_ret
   exact ⟨by rw [HE.out];rfl,Below.refl _ _⟩
  ·obtain ⟨an,rfl⟩:∃ an:Nat,a=an:=⟨a.toNat,by omega⟩
   have hanl:an < n:=by omega
   have i5:(0:Int)<=(an:Int):=by omega
   have C3:=HC.out an hanl
   have q3:=HA.out an hanl
   have HS:Hid (meF fs i j=if okR P an (pj+1).toNat pj=true then (an:Int) else meO P j (P an+1).toNat (P an)):=by
    show _=_
    rw [HO.out,meO_step HA.out j hanl,HPJ.out]
   obtain ⟨pa,hpa⟩:∃ x,P an=x:=⟨_,rfl⟩
   rw [hpa] at C3 q3 HS
   clear hpa
   go_wp2
   go_loop [8] (fun s=>∃ (b':Int),-1<=b'/\b' < n/\s=.int .i64 b'/\Hid (okR P an (pj+1).toNat pj=okR P an (b'+1).toNat b')) (fun s=>(RowKit.intOf s+1).toNat)
   case atStart=>exact ⟨pj,q2.1,by omega,rfl,rfl⟩
   case round=>
    obtain ⟨b',hb0,hb1,rfl,HB⟩:=hrel
    by_cases hnb:b' < 0
    ·have HE:Hid (meF fs i j=meO P j (pa+1).toNat pa):=by
      show _=_
      rw [HS.out,HB.out]
      have:b' = -1:=by omega
      rw [this]
      show (if okR P an 0 (-1)=true then _ else _)=_
      simp [okR]
     have i6:¬ (0:Int)<=b':=by omega
     go_wp2
     go_round
     case rel=>exact ⟨pa,q3.1,by omega,rfl,HE⟩
     case measure=>simp [RowKit.intOf];omega
    ·obtain ⟨bn,rfl⟩:∃ bn:Nat,b'=bn:=⟨b'.toNat,by omega⟩
     have hbnl:bn < n:=by omega
     have i6:(0:Int)<=(bn:Int):=by omega
     have C4:=HC.out bn hbnl
     have q4:=HA.out bn hbnl
     have HT:Hid (okR P an (pj+1).toNat pj=(decide ((an:Int)=bn) || okR P an (P bn+1).toNat (P bn))):=by
      show _=_
      rw [HB.out,okR_step HA.out (an:Int) hbnl]
     obtain ⟨pb,hpb⟩:∃ x,P bn=x:=⟨_,rfl⟩
     rw [hpb] at C4 q4 HT
     clear hpb
     by_cases heq:an=bn
     ·have HE:Hid (meF fs i j=(an:Int)):=by
       show _=_
       rw [HS.out,HT.out,heq]
       simp
      subst heq
      go_wp2
      go_ret
      exact ⟨by rw [HE.out];rfl,Below.refl _ _⟩
     ·have HE:Hid (okR P an (pj+1).toNat pj=okR P an (pb+1).toNat pb):=by
       show _=_
       rw [HT.out]
       have:decide ((an:Int)=bn)=false:=by simp;omega
       rw [this,Bool.false_or]
      have hne:¬ ((an:Int)=(bn:Int)):=by omega
      go_wp2
      go_round
      case rel=>exact ⟨pb,q4.1,by omega,rfl,HE⟩
      case measure=>simp [RowKit.intOf];omega
theorem leaps_any {ok:Nat->Prop}{W:World}{Lb d:Nat}{c:ChG d}{fs:List (Int × SgS)}(h:Ly ok W Lb c fs) (hA:Ahd fs.length (paF fs)) (hl:fs.length<=1000000) (i:Nat) (hi:i < fs.length) (j:Nat) (hj:j < fs.length) :
  Calls Tryz.prog 145 #[.pointer (some ⟨Lb,0,none⟩),.int .i64 (i:Int),.int .i64 (j:Int)] W fun e w'=>e=.returned (.bool (leB fs i j))/\Below W.heap.size W w':=by
 have hm:=meetL_any h hA hl i hi j hj
 have hml : -1<=meF fs i j/\meF fs i j < fs.length:=meO_lt hA j _ _ (by have:=hA i hi;omega)
 have hLy:=fun w1 (b:Below W.heap.size W w1)=>h.on b
 obtain ⟨M,hM⟩:∃ M,meF fs i j=M:=⟨_,rfl⟩
 have HE:Hid (leB fs i j=(decide (0<=M) && atB fs (fun x=>(sgH x.2).2.1.1) M.toNat)):=by show _=_;unfold leB;rw [hM]
 rw [HE.out]
 rw [hM] at hm hml
 clear h hM HE
 by_cases hneg:0<=M
 ·obtain ⟨m,rfl⟩:∃ m:Nat,M=m:=⟨M.toNat,by omega⟩
  have hmf:m < fs.length:=by omega
  rw [Int.toNat_natCast,atB_of hmf]
  have hcl:∀ w1,Below W.heap.size W w1->∃ b off n sc0,w1.cell? ⟨Lb,6,none⟩=some (.slice (some ⟨b,off,none⟩) n sc0)/\m < n/\w1.cell? ⟨b,off+m*11+3,none⟩=some (.bool (sgH (fs[m]).2).2.1.1):=fun w1 b1=>by
   obtain ⟨g0,g1,g2,g3,g4,g6,g7,g8,g9,sa,sc0,oa,oc,k1,k2,k3,k4,k5⟩:=hLy w1 b1
   have c6:=(k1 6 _ rfl).1
   obtain ⟨b,off,cs,rfl,_,hbl,_,hr,hc⟩:=rdK_at k3 m hmf
   obtain ⟨sn,sl,sc,sb,se,sd,su,sw,sr,p1,p3,p4,p6,rfl,HS,_⟩:=sg_let hr
   refine ⟨b,off,_,sc0,c6,hmf,?_⟩
   rw [<- HS.out.2.2.1]
   exact hc 3 _ rfl
  obtain ⟨A,hAA⟩:∃ A,(sgH (fs[m]).2).2.1.1=A:=⟨_,rfl⟩
  rw [hAA] at hcl ⊢
  have i2:(0:Int)<=(m:Int):=by omega
  rw [decide_eq_true i2,Bool.true_and]
  clear hAA hA hml hLy hneg
  go_enter Tryz.func145,Tryz.ntmps145
  go_wp2_with (first|(go_at_call 168;refine hm.mono ?_;rintro e w1 ⟨rfl,b1⟩;obtain ⟨b,off,n,sc0,c6,hmn,c3⟩:=hcl w1 b1;have i1:(m:Int) < (n:Int):=(by omega))|fail)
  go_ret
  exact ⟨rfl,b1⟩
 ·rw [decide_eq_false hneg,Bool.false_and]
  clear hA hml hLy
  go_enter Tryz.func145,Tryz.ntmps145
  go_wp2_with (first|(go_at_call 168;refine hm.mono ?_;rintro e w1 ⟨rfl,b1⟩)|fail)
  go_ret
  exact ⟨rfl,b1⟩
theorem on_let {ok:Nat->Prop}{w:World}{o:OnC}{cs:List Value}(hr:rOn ok w o cs):∃ (ev:ByteArray) (g:Value) (tg:ByteArray) (s1:Option Addr) (ns s3:Nat) (ol oc:Int),cs=[.string ev,g,.string tg,.slice s1 ns s3,.int .i64 ol,.int .i64 oc]/\(g=.nilIface∨∃ u y,g=.iface u y)/\Hid (onEv o=ev/\onTg o=tg):=by
 obtain ⟨sl,rfl,hs⟩:=hr
 obtain ⟨s1,s3,rfl,_⟩:=hs.form
 exact ⟨_,_,_,s1,_,s3,_,_,rfl,gdV_form o.2.1,⟨rfl,rfl⟩⟩
theorem as1_any {ok:Nat->Prop}{w W:World}{Lb d:Nat}{c:ChG d}{fs:List (Int × SgS)}(h:Ly ok W Lb c fs) (hA:Ahd fs.length (paF fs)) (hl:fs.length<=1000000) {o:OnC}{cs:List Value}(hr:rOn ok w o cs) (X0:Nat) (h0:Bn W X0 [.pointer (some ⟨Lb,0,none⟩)]) (i:Nat) (hi:i < fs.length) :
  Calls Tryz.prog 144 #[.int .i64 (i:Int),.agg cs.toArray,.pointer (some ⟨X0,0,none⟩)] W fun e w'=>e=.returned (.bool (asB fs i (fdS fs (onTg o))))/\Below W.heap.size W w':=by
 obtain ⟨ev,g,tg,s1,ns,s3,ol,oc,rfl,hg,HO⟩:=on_let hr
 rw [HO.out.2]
 have hs:=fun W1 (b:Below W.heap.size W W1)=>stateL_any (h.on b) hl tg
 have hfl:fdS fs tg < fs.length:=by have:=ixF_lt (atB fs (fun x=>(sgN x.2).toList == tg.toList)) fs.length 0;unfold fdS;omega
 have hle:=fun (j:Nat) (hj:j < fs.length) W1 (b:Below W.heap.size W W1)=>leaps_any (h.on b) hA hl i hi j hj
 obtain ⟨F,hF⟩:∃ F,fdS fs tg=F:=⟨_,rfl⟩
 rw [hF] at hs hfl ⊢
 clear h hr hF HO hA
 by_cases hneg:F < 0
 ·have e1:asB fs i F=true:=by unfold asB;simp [hneg]
  rw [e1]
  rcases hg with rfl|⟨gu,gy,rfl⟩
  ·have hal:Below W.heap.size W (W.alloc (.cells #[.string ev,.nilIface,.string tg,.slice s1 ns s3,.int .i64 ol,.int .i64 oc] 88)):=(Below.refl _ _).alloc Nat.le.refl _
   obtain ⟨x0,_⟩:=(h0.on hal) 0 _ rfl
   go_enter Tryz.func144,Tryz.ntmps144
   go_wp2_with (first|(go_at_call 133;refine (hs _ hal).mono ?_;rintro e w1 ⟨rfl,b1⟩)|fail)
   go_ret
   exact ⟨rfl,hal.trans (b1.mono hal.size)⟩
  ·have hal:Below W.heap.size W (W.alloc (.cells #[.string ev,.iface gu gy,.string tg,.slice s1 ns s3,.int .i64 ol,.int .i64 oc] 88)):=(Below.refl _ _).alloc Nat.le.refl _
   obtain ⟨x0,_⟩:=(h0.on hal) 0 _ rfl
   go_enter Tryz.func144,Tryz.ntmps144
   go_wp2_with (first|(go_at_call 133;refine (hs _ hal).mono ?_;rintro e w1 ⟨rfl,b1⟩)|fail)
   go_ret
   exact ⟨rfl,hal.trans (b1.mono hal.size)⟩
 ·obtain ⟨j,rfl⟩:∃ j:Nat,F=j:=⟨F.toNat,by omega⟩
  have hle2:=hle j (by omega)
  obtain ⟨R,hR⟩:∃ R,leB fs i j=R:=⟨_,rfl⟩
  have e1:asB fs i (j:Int)=R:=by unfold asB;rw [Int.toNat_natCast,hR];simp;omega
  rw [e1]
  rw [hR] at hle2
  clear hle hR e1
  rcases hg with rfl|⟨gu,gy,rfl⟩
  ·have hal:Below W.heap.size W (W.alloc (.cells #[.string ev,.nilIface,.string tg,.slice s1 ns s3,.int .i64 ol,.int .i64 oc] 88)):=(Below.refl _ _).alloc Nat.le.refl _
   have h0':=h0.on hal
   obtain ⟨x0,_⟩:=h0' 0 _ rfl
   go_enter Tryz.func144,Tryz.ntmps144
   go_wp2_with (first
    | (go_at_call 133;refine (hs _ hal).mono ?_;rintro e w1 ⟨rfl,b1⟩;have bw:=hal.trans (b1.mono hal.size);obtain ⟨x1,_⟩:=(h0'.on b1) 0 _ rfl)
    | (go_at_call 145;refine (hle2 _ bw).mono ?_;rintro e w2 ⟨rfl,b2⟩)
    | fail)
   go_ret
   exact ⟨rfl,bw.trans (b2.mono bw.size)⟩
  ·have hal:Below W.heap.size W (W.alloc (.cells #[.string ev,.iface gu gy,.string tg,.slice s1 ns s3,.int .i64 ol,.int .i64 oc] 88)):=(Below.refl _ _).alloc Nat.le.refl _
   have h0':=h0.on hal
   obtain ⟨x0,_⟩:=h0' 0 _ rfl
   go_enter Tryz.func144,Tryz.ntmps144
   go_wp2_with (first
    | (go_at_call 133;refine (hs _ hal).mono ?_;rintro e w1 ⟨rfl,b1⟩;have bw:=hal.trans (b1.mono hal.size);obtain ⟨x1,_⟩:=(h0'.on b1) 0 _ rfl)
    | (go_at_call 145;refine (hle2 _ bw).mono ?_;rintro e w2 ⟨rfl,b2⟩)
    | fail)
   go_ret
   exact ⟨rfl,bw.trans (b2.mono bw.size)⟩
theorem bw1_any {ok:Nat->Prop}{w W:World}{Lb d:Nat}{c:ChG d}{fs:List (Int × SgS)}(h:Ly ok W Lb c fs) (hl:fs.length<=1000000) {o:OnC}{cs:List Value}(hr:rOn ok w o cs) (X0:Nat) (h0:Bn W X0 [.pointer (some ⟨Lb,0,none⟩)]) (i:Nat) :
  Calls Tryz.prog 146 #[.int .i64 (i:Int),.agg cs.toArray,.pointer (some ⟨X0,0,none⟩)] W fun e w'=>e=.returned (.bool (dnB (onEv o) && decide (fdS fs (onTg o)<=i)))/\Below W.heap.size W w':=by
 obtain ⟨ev,g,tg,s1,ns,s3,ol,oc,rfl,hg,HO⟩:=on_let hr
 rw [HO.out.1,HO.out.2]
 have hs:=fun W1 (b:Below W.heap.size W W1)=>stateL_any (h.on b) hl tg
 obtain ⟨F,hF⟩:∃ F,fdS fs tg=F:=⟨_,rfl⟩
 rw [hF] at hs ⊢
 obtain ⟨D,hD⟩:∃ D,dnB ev=D:=⟨_,rfl⟩
 rw [hD]
 unfold dnB at hD
 clear h hr hF HO
 rcases hg with rfl|⟨gu,gy,rfl⟩
 ·have hal:Below W.heap.size W (W.alloc (.cells #[.string ev,.nilIface,.string tg,.slice s1 ns s3,.int .i64 ol,.int .i64 oc] 88)):=(Below.refl _ _).alloc Nat.le.refl _
  obtain ⟨x0,_⟩:=(h0.on hal) 0 _ rfl
  go_enter Tryz.func146,Tryz.ntmps146
  cases D with
  | false=>
   go_wp2
   go_ret
   exact ⟨rfl,hal⟩
  | true=>
   by_cases hle:F<=(i:Int)
   ·go_wp2_with (first|(go_at_call 133;refine (hs _ hal).mono ?_;rintro e w1 ⟨rfl,b1⟩)|fail)
    go_ret
    exact ⟨by simp [hle],hal.trans (b1.mono hal.size)⟩
   ·go_wp2_with (first|(go_at_call 133;refine (hs _ hal).mono ?_;rintro e w1 ⟨rfl,b1⟩)|fail)
    go_ret
    exact ⟨by simp [hle],hal.trans (b1.mono hal.size)⟩
 ·have hal:Below W.heap.size W (W.alloc (.cells #[.string ev,.iface gu gy,.string tg,.slice s1 ns s3,.int .i64 ol,.int .i64 oc] 88)):=(Below.refl _ _).alloc Nat.le.refl _
  obtain ⟨x0,_⟩:=(h0.on hal) 0 _ rfl
  go_enter Tryz.func146,Tryz.ntmps146
  cases D with
  | false=>
   go_wp2
   go_ret
   exact ⟨rfl,hal⟩
  | true=>
   by_cases hle:F<=(i:Int)
   ·go_wp2_with (first|(go_at_call 133;refine (hs _ hal).mono ?_;rintro e w1 ⟨rfl,b1⟩)|fail)
    go_ret
    exact ⟨by simp [hle],hal.trans (b1.mono hal.size)⟩
   ·go_wp2_with (first|(go_at_call 133;refine (hs _ hal).mono ?_;rintro e w1 ⟨rfl,b1⟩)|fail)
    go_ret
    exact ⟨by simp [hle],hal.trans (b1.mono hal.size)⟩
