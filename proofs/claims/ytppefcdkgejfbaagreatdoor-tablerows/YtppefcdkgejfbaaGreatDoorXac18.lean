import Derived.Test.YtppefcdkgejfbaaGreatDoorXac17
import Derived.Test.YtppefcdkgejfbaaGreatDoorXac13
set_option maxRecDepth 100000
set_option maxHeartbeats 32000000
namespace Go.Proofs.YtppefcdkgejfbaaGreatDoor
open Go.RowKit Go.Lib
set_option linter.unusedSimpArgs false
set_option linter.unusedVariables false
attribute [local go_sem ↓] Go.wp_at_zero Go.wp_at_succ
def kR (sd su:ByteArray) (sw sr:Int) (sb se:Bool):Bool:=if sd.toList=[]/\su.toList=[]/\sw=0/\(sr == 0)=true then !sb || !se else !sb && !se && plainB (bl sd) && plainB (bl su) && nbB sw && nbB sr
theorem rknd_any (sn:ByteArray) (sl sc:Int) (sb se:Bool) (sd su:ByteArray) (sw sr:Int) (p1:Option Addr) (m p3:Nat) (p4:Option Addr) (ni p6:Nat) (w:World) (hsd:sd.size<=140737488351232) (hsu:su.size<=140737488351232):Calls Tryz.prog 124 #[.agg #[.string sn,.int .i64 sl,.int .i64 sc,.bool sb,.bool se,.string sd,.string su,.int .i64 sw,.int .i64 sr,.slice p1 m p3,.slice p4 ni p6]] w fun e w'=>e=.returned (.bool (kR sd su sw sr sb se))/\Below w.heap.size w w':=by
 have hal:Below w.heap.size w (w.alloc (.cells #[.string sn,.int .i64 sl,.int .i64 sc,.bool sb,.bool se,.string sd,.string su,.int .i64 sw,.int .i64 sr,.slice p1 m p3,.slice p4 ni p6] 79)):=(Below.refl w.heap.size w).alloc Nat.le.refl _
 have hX:Bn (w.alloc (.cells #[.string sn,.int .i64 sl,.int .i64 sc,.bool sb,.bool se,.string sd,.string su,.int .i64 sw,.int .i64 sr,.slice p1 m p3,.slice p4 ni p6] 79)) w.heap.size [.string sn,.int .i64 sl,.int .i64 sc,.bool sb,.bool se,.string sd,.string su,.int .i64 sw,.int .i64 sr,.slice p1 m p3,.slice p4 ni p6]:=Bn.new w [.string sn,.int .i64 sl,.int .i64 sc,.bool sb,.bool se,.string sd,.string su,.int .i64 sw,.int .i64 sr,.slice p1 m p3,.slice p4 ni p6] 79 _ rfl
 all_goals (
  go_enter Tryz.func124,Tryz.ntmps124
  go_upto_region 1 with fail
  generalize (w.alloc (.cells #[.string sn,.int .i64 sl,.int .i64 sc,.bool sb,.bool se,.string sd,.string su,.int .i64 sw,.int .i64 sr,.slice p1 m p3,.slice p4 ni p6] 79))=wx at *
  have hB:Below wx.heap.size wx wx:=Below.refl _ _
  have x0:=(hX 0 _ rfl).1
  have x1:=(hX 1 _ rfl).1
  have x2:=(hX 2 _ rfl).1
  have x3:=(hX 3 _ rfl).1
  have x4:=(hX 4 _ rfl).1
  have x5:=(hX 5 _ rfl).1
  have x6:=(hX 6 _ rfl).1
  have x7:=(hX 7 _ rfl).1
  have x8:=(hX 8 _ rfl).1
  have x9:=(hX 9 _ rfl).1
  have x10:=(hX 10 _ rfl).1
  go_wp2_with (first
   | (go_at_call 95;refine (rnameB _ _ (by assumption)).mono ?_;rintro e w1 ⟨rfl,b1⟩;have hB:=Below.nx hB b1;obtain ⟨x5,_⟩:=(hX.on hB) 5 _ rfl;obtain ⟨x6,_⟩:=(hX.on hB) 6 _ rfl;obtain ⟨x7,_⟩:=(hX.on hB) 7 _ rfl;obtain ⟨x8,_⟩:=(hX.on hB) 8 _ rfl)
   | (go_at_call 96;refine (rnum_any _ _).mono ?_;rintro e w1 ⟨rfl,b1⟩;have hB:=Below.nx hB b1;obtain ⟨x7,_⟩:=(hX.on hB) 7 _ rfl;obtain ⟨x8,_⟩:=(hX.on hB) 8 _ rfl)
   | fail)
  all_goals (
   go_ret
   exact ⟨by simp [kR, *],hal.trans (hB.mono hal.size)⟩))
def HdK (h:HdC):Prop:=h.1.1.length<=140737488351232/\h.2.2.1.1.length<=140737488351232/\h.2.2.1.2.length<=140737488351232/\∀ o∈h.2.2.2.2,OnK o
def StK:(d:Nat)->St d->Prop
 | 0,t=>Empty.elim t
 | d+1,t=>HdK t.1/\∀ x∈t.2,StK d x
theorem kR_eq (sd su:ByteArray) (h:HdC) (h1:bl sd=h.2.2.1.1) (h2:bl su=h.2.2.1.2):kR sd su h.2.2.2.1.1 h.2.2.2.1.2 h.2.1.1 h.2.1.2=kndF h:=by
 have e1:sd.toList=bl sd:=ByteArray.toList_eq _
 have e2:su.toList=bl su:=ByteArray.toList_eq _
 unfold kR kndF stepB
 rw [e1,e2,<- h1,<- h2]
 by_cases a:bl sd=[]<;>by_cases b:bl su=[]<;>by_cases c:h.2.2.2.1.1=0<;>by_cases e:h.2.2.2.1.2=0<;>simp [a,b,c,e]
theorem hd_out (h:HdC) (h1:h.1.1.length<=140737488351232) (h2:h.2.2.1.1.length<=140737488351232) (h3:h.2.2.1.2.length<=140737488351232):∃ (sn:ByteArray) (sl sc:Int) (sb se:Bool) (sd su:ByteArray) (sw sr:Int),hdV h=(fun so si=>[.string sn,.int .i64 sl,.int .i64 sc,.bool sb,.bool se,.string sd,.string su,.int .i64 sw,.int .i64 sr,so,si])/\plainB h.1.1=plainB (bl sn)/\kndF h=kR sd su sw sr sb se/\sn.size<=140737488351232/\sd.size<=140737488351232/\su.size<=140737488351232:=by
 obtain ⟨sn,a1,a2,a3⟩:=sV_out h.1.1 h1
 obtain ⟨sd,b1,b2,b3⟩:=sV_out h.2.2.1.1 h2
 obtain ⟨su,c1,c2,c3⟩:=sV_out h.2.2.1.2 h3
 refine ⟨sn,h.1.2.1,h.1.2.2,h.2.1.1,h.2.1.2,sd,su,h.2.2.2.1.1,h.2.2.2.1.2,?_,by rw [a2],(kR_eq sd su h b2 c2).symm,a3,b3,c3⟩
 funext so si
 unfold hdV
 rw [a1,b1,c1]
theorem rst1_any (sn:ByteArray) (sl sc:Int) (sb se:Bool) (sd su:ByteArray) (sw sr:Int) (p1:Option Addr) (m p3:Nat) (p4:Option Addr) (ni p6:Nat) (kb:Nat) (n:Int) (bk bo bi:Bool) (w:World) (h0:0<=n) (hkl:kb < w.heap.size) (hkc:w.cell? ⟨kb,0,none⟩=some (.int .i64 n)) (hsn:sn.size<=140737488351232) (hk:∀ w1,Below w.heap.size w w1->Calls Tryz.prog 124 #[.agg #[.string sn,.int .i64 sl,.int .i64 sc,.bool sb,.bool se,.string sd,.string su,.int .i64 sw,.int .i64 sr,.slice p1 m p3,.slice p4 ni p6]] w1 fun e w'=>e=.returned (.bool bk)/\Below w1.heap.size w1 w') (ho:∀ w1,Below w.heap.size w w1->Calls Tryz.prog 125 #[.slice p1 m p3,.func (.func 126) #[] #[]] w1 fun e w'=>e=.returned (.bool bo)/\Below w1.heap.size w1 w') (hi:∀ w1,Below w.heap.size w w1->Calls Tryz.prog 99 #[.slice p4 ni p6,.int .i64 (n+1)] w1 fun e w'=>e=.returned (.bool bi)/\Below w1.heap.size w1 w'):Calls Tryz.prog 123 #[.agg #[.string sn,.int .i64 sl,.int .i64 sc,.bool sb,.bool se,.string sd,.string su,.int .i64 sw,.int .i64 sr,.slice p1 m p3,.slice p4 ni p6],.pointer (some ⟨kb,0,none⟩)] w fun e w'=>e=.returned (.bool (decide (n<=6) && plainB (bl sn) && bk && bo && bi))/\Below w.heap.size w w':=by
 have hal:Below w.heap.size w (w.alloc (.cells #[.string sn,.int .i64 sl,.int .i64 sc,.bool sb,.bool se,.string sd,.string su,.int .i64 sw,.int .i64 sr,.slice p1 m p3,.slice p4 ni p6] 79)):=(Below.refl w.heap.size w).alloc Nat.le.refl _
 have hX:Bn (w.alloc (.cells #[.string sn,.int .i64 sl,.int .i64 sc,.bool sb,.bool se,.string sd,.string su,.int .i64 sw,.int .i64 sr,.slice p1 m p3,.slice p4 ni p6] 79)) w.heap.size [.string sn,.int .i64 sl,.int .i64 sc,.bool sb,.bool se,.string sd,.string su,.int .i64 sw,.int .i64 sr,.slice p1 m p3,.slice p4 ni p6]:=Bn.new w [.string sn,.int .i64 sl,.int .i64 sc,.bool sb,.bool se,.string sd,.string su,.int .i64 sw,.int .i64 sr,.slice p1 m p3,.slice p4 ni p6] 79 _ rfl
 by_cases hn6:n<=6
 all_goals (
  go_enter Tryz.func123,Tryz.ntmps123
  go_upto_region 1 with fail
  generalize (w.alloc (.cells #[.string sn,.int .i64 sl,.int .i64 sc,.bool sb,.bool se,.string sd,.string su,.int .i64 sw,.int .i64 sr,.slice p1 m p3,.slice p4 ni p6] 79))=wx at *
  have hB:Below wx.heap.size wx wx:=Below.refl _ _
  have x0:=(hX 0 _ rfl).1
  have x1:=(hX 1 _ rfl).1
  have x2:=(hX 2 _ rfl).1
  have x3:=(hX 3 _ rfl).1
  have x4:=(hX 4 _ rfl).1
  have x5:=(hX 5 _ rfl).1
  have x6:=(hX 6 _ rfl).1
  have x7:=(hX 7 _ rfl).1
  have x8:=(hX 8 _ rfl).1
  have x9:=(hX 9 _ rfl).1
  have x10:=(hX 10 _ rfl).1
  have kc:=(hal.cell (p:=⟨kb,0,none⟩) hkl).trans hkc
  go_wp2_with (first
   | (go_at_call 95;refine (rnameB _ _ (by assumption)).mono ?_;rintro e w1 ⟨rfl,b1⟩;have hB:=Below.nx hB b1;have kc:=((hal.trans (hB.mono hal.size)).cell (p:=⟨kb,0,none⟩) hkl).trans hkc;obtain ⟨x0,_⟩:=(hX.on hB) 0 _ rfl;obtain ⟨x1,_⟩:=(hX.on hB) 1 _ rfl;obtain ⟨x2,_⟩:=(hX.on hB) 2 _ rfl;obtain ⟨x3,_⟩:=(hX.on hB) 3 _ rfl;obtain ⟨x4,_⟩:=(hX.on hB) 4 _ rfl;obtain ⟨x5,_⟩:=(hX.on hB) 5 _ rfl;obtain ⟨x6,_⟩:=(hX.on hB) 6 _ rfl;obtain ⟨x7,_⟩:=(hX.on hB) 7 _ rfl;obtain ⟨x8,_⟩:=(hX.on hB) 8 _ rfl;obtain ⟨x9,_⟩:=(hX.on hB) 9 _ rfl;obtain ⟨x10,_⟩:=(hX.on hB) 10 _ rfl)
   | (go_at_call 124;refine (hk _ (hal.trans (hB.mono hal.size))).mono ?_;rintro e w1 ⟨rfl,b1⟩;have hB:=Below.nx hB b1;have kc:=((hal.trans (hB.mono hal.size)).cell (p:=⟨kb,0,none⟩) hkl).trans hkc;obtain ⟨x9,_⟩:=(hX.on hB) 9 _ rfl;obtain ⟨x10,_⟩:=(hX.on hB) 10 _ rfl)
   | (go_at_call 125;refine (ho _ (hal.trans (hB.mono hal.size))).mono ?_;rintro e w1 ⟨rfl,b1⟩;have hB:=Below.nx hB b1;have kc:=((hal.trans (hB.mono hal.size)).cell (p:=⟨kb,0,none⟩) hkl).trans hkc;obtain ⟨x10,_⟩:=(hX.on hB) 10 _ rfl)
   | (go_at_call 99;refine (hi _ (hal.trans (hB.mono hal.size))).mono ?_;rintro e w1 ⟨rfl,b1⟩;have hB:=Below.nx hB b1;have kc:=((hal.trans (hB.mono hal.size)).cell (p:=⟨kb,0,none⟩) hkl).trans hkc;skip)
   | fail)
  all_goals (
   go_ret
   exact ⟨by first|(simp [*];done)|(simp [*];intro hz;omega),hal.trans (hB.mono hal.size)⟩))
theorem everySt_any {d kb n0:Nat}{ok:Nat->Prop}{w:World}{l:List (St (d+1))}{v:Value}(h:RdK ok w 11 (rSt (d+1) ok w) l v) (hok:∀ s∈l,HdK s.1) (hin:∀ t∈l,∀ (w1:World) (v1:Value),RdK ok w1 11 (rSt d ok w1) t.2 v1->Pow w1->Calls Tryz.prog 99 #[v1,.int .i64 ((n0:Int)+1)] w1 fun e w'=>e=.returned (.bool (t.2.all (stF d (n0+1))))/\Below w1.heap.size w1 w') (hp:Pow w) (hkl:kb < w.heap.size) (hkc:w.cell? ⟨kb,0,none⟩=some (.int .i64 (n0:Int))) :
  Calls Tryz.prog 122 #[v,.func (.func 123) #[] #[.pointer (some ⟨kb,0,none⟩)]] w fun e w'=>e=.returned (.bool (l.all (stF (d+1) n0)))/\Below w.heap.size w w':=by
 obtain ⟨a,cap,rfl,hlc,hcm⟩:=h.form
 unfold maxLen at hcm
 have HC:=mkHid h
 have HK:=mkHid hok
 have HI:=mkHid hin
 obtain ⟨n,hn⟩:∃ n,l.length=n:=⟨_,rfl⟩
 rw [hn] at hlc ⊢
 have HN:Hid (l.length=n):=hn
 obtain ⟨f,hf⟩:∃ f:(St (d+1))->Bool,(stF (d+1) n0)=f:=⟨_,rfl⟩
 rw [hf]
 have HF:=mkHid hf
 obtain ⟨V,HA⟩:∃ V,l.all f=V:=⟨_,rfl⟩
 rw [HA]
 have HAA:=mkHid HA
 clear h hok hin hn hf HA
 go_enter Tryz.func122,Tryz.ntmps122
 go_wp2
 go_loopw [9] (fun ix wr=>∃ (i:Nat),i<=n/\ix=.int .i64 (i:Int)/\Hid (∀ x∈l.take i,f x=true)/\Below w.heap.size w wr) (fun ix _=>n - (RowKit.intOf ix).toNat)
 case atStart=>exact ⟨0,Nat.zero_le _,rfl,(show Hid _ from fun x hx=>by simp at hx),Below.refl _ _⟩
 case round=>
  obtain ⟨i,hi,rfl,hT,hb⟩:=hrel
  by_cases hlt:i < n
  ·have hil:i < l.length:=by rw [HN.out];exact hlt
   have HA:=HAA.out
   obtain ⟨b,off,p1,p3,p4,p6,rfl,hbl,hOn,hIn,hc⟩:=stQ_at HC.out i hil
   have hmem:=List.getElem_mem hil
   have hko:=HK.out _ hmem
   have hiq:=HI.out _ hmem
   obtain ⟨q,ht⟩:∃ t,l[i]=t:=⟨_,rfl⟩
   have HQ:=mkHid ht
   rw [ht] at hOn hIn hc hko hiq
   obtain ⟨sn,sl,sc,sb,se,sd,su,sw,sr,hsv,hpn,hkd,hsn,hsd,hsu⟩:=hd_out q.1 hko.1 hko.2.1 hko.2.2.1
   have hfx:f q=(decide ((n0:Int)<=6) && plainB (bl sn) && kR sd su sw sr sb se && q.1.2.2.2.2.all onF && q.2.all (stF d (n0+1))):=by
    rw [<- HF.out,<- hpn,<- hkd]
    have e:decide ((n0:Int)<=6)=decide (n0<=6):=by by_cases hh:n0<=6<;>simp [hh]<;>omega
    rw [e];rfl
   obtain ⟨m,hm⟩:∃ m,q.1.2.2.2.2.length=m:=⟨_,rfl⟩
   obtain ⟨ni,hni⟩:∃ m,q.2.length=m:=⟨_,rfl⟩
   rw [hm] at hOn hc
   rw [hni] at hIn hc
   rw [hsv] at hc
   have HON:=mkHid hOn
   have HIQ:=mkHid hiq
   have HIN:=mkHid hIn
   have HKO:=mkHid hko
   clear hmem ht hm hni hsv hOn hIn hko hiq hpn hkd
   have i1:(i:Int) < (n:Int):=by omega
   have i2:(0:Int)<=(i:Int):=by omega
   have C0:=(hb.cell (p:=⟨b,off+i*11+0,none⟩) hbl).trans (hc 0 _ rfl)
   have C1:=(hb.cell (p:=⟨b,off+i*11+1,none⟩) hbl).trans (hc 1 _ rfl)
   have C2:=(hb.cell (p:=⟨b,off+i*11+2,none⟩) hbl).trans (hc 2 _ rfl)
   have C3:=(hb.cell (p:=⟨b,off+i*11+3,none⟩) hbl).trans (hc 3 _ rfl)
   have C4:=(hb.cell (p:=⟨b,off+i*11+4,none⟩) hbl).trans (hc 4 _ rfl)
   have C5:=(hb.cell (p:=⟨b,off+i*11+5,none⟩) hbl).trans (hc 5 _ rfl)
   have C6:=(hb.cell (p:=⟨b,off+i*11+6,none⟩) hbl).trans (hc 6 _ rfl)
   have C7:=(hb.cell (p:=⟨b,off+i*11+7,none⟩) hbl).trans (hc 7 _ rfl)
   have C8:=(hb.cell (p:=⟨b,off+i*11+8,none⟩) hbl).trans (hc 8 _ rfl)
   have C9:=(hb.cell (p:=⟨b,off+i*11+9,none⟩) hbl).trans (hc 9 _ rfl)
   have C10:=(hb.cell (p:=⟨b,off+i*11+10,none⟩) hbl).trans (hc 10 _ rfl)
   rw [Nat.add_zero] at C0
   clear hc
   have hal:Below wr.heap.size wr (wr.alloc (.cells #[.string sn,.int .i64 sl,.int .i64 sc,.bool sb,.bool se,.string sd,.string su,.int .i64 sw,.int .i64 sr,.slice p1 m p3,.slice p4 ni p6] 79)):=(Below.refl _ _).alloc Nat.le.refl _
   have hX:Bn (wr.alloc (.cells #[.string sn,.int .i64 sl,.int .i64 sc,.bool sb,.bool se,.string sd,.string su,.int .i64 sw,.int .i64 sr,.slice p1 m p3,.slice p4 ni p6] 79)) wr.heap.size [.string sn,.int .i64 sl,.int .i64 sc,.bool sb,.bool se,.string sd,.string su,.int .i64 sw,.int .i64 sr,.slice p1 m p3,.slice p4 ni p6]:=Bn.new wr [.string sn,.int .i64 sl,.int .i64 sc,.bool sb,.bool se,.string sd,.string su,.int .i64 sw,.int .i64 sr,.slice p1 m p3,.slice p4 ni p6] 79 _ rfl
   have hbx:=hb.trans (hal.mono hb.size)
   have hcall:∀ w1,Below w.heap.size w w1->Calls Tryz.prog 123 #[.agg #[.string sn,.int .i64 sl,.int .i64 sc,.bool sb,.bool se,.string sd,.string su,.int .i64 sw,.int .i64 sr,.slice p1 m p3,.slice p4 ni p6],.pointer (some ⟨kb,0,none⟩)] w1 fun e w'=>e=.returned (.bool (f q))/\Below w1.heap.size w1 w':=fun w1 b1=>by
    rw [hfx]
    exact rst1_any sn sl sc sb se sd su sw sr p1 m p3 p4 ni p6 kb n0 _ _ _ w1 (by omega) (Nat.lt_of_lt_of_le hkl b1.size) ((b1.cell (p:=⟨kb,0,none⟩) hkl).trans hkc) hsn (fun w2 b2=>rknd_any sn sl sc sb se sd su sw sr p1 m p3 p4 ni p6 w2 hsd hsu) (fun w2 b2=>everyOn_any (HON.out.stay kp_on (ok':=ok) (fun b hb hl=>⟨hb,((b2.block b (Nat.lt_of_lt_of_le hl b1.size)).trans (b1.block b hl))⟩)) HKO.out.2.2.2 ((hp.below b1).below b2)) (fun w2 b2=>HIQ.out w2 _ (HIN.out.stay (kp_st d) (ok':=ok) (fun b hb hl=>⟨hb,((b2.block b (Nat.lt_of_lt_of_le hl b1.size)).trans (b1.block b hl))⟩)) ((hp.below b1).below b2))
   clear hfx hsn hsd hsu
   have hac2:Hid (f q=true->(∀ x∈l.take (i+1),f x=true)):=fun hq=>by
    rw [List.take_succ_eq_append_getElem hil,HQ.out]
    intro x hx
    rcases List.mem_append.1 hx with hx|hx
    ·exact hT.out x hx
    ·rw [List.mem_singleton.1 hx];exact hq
   have hall:Hid (f q=false->l.all f=false):=fun hq=>by
    show l.all f=false
    rw [List.all_eq_false]
    exact ⟨q,by rw [<- HQ.out];exact List.getElem_mem hil,by rw [hq];decide⟩
   cases hfq:f q with
   | true=>
    rw [hfq] at hcall
    have hT2:Hid (∀ x∈l.take (i+1),f x=true):=hac2.out hfq
    clear hac2 hall hfq
    go_upto_region 4 with fail
    clear C0 C1 C2 C3 C4 C5 C6 C7 C8 C9 C10
    generalize (wr.alloc (.cells #[.string sn,.int .i64 sl,.int .i64 sc,.bool sb,.bool se,.string sd,.string su,.int .i64 sw,.int .i64 sr,.slice p1 m p3,.slice p4 ni p6] 79))=wx at *
    have x0:=(hX 0 _ rfl).1
    have x1:=(hX 1 _ rfl).1
    have x2:=(hX 2 _ rfl).1
    have x3:=(hX 3 _ rfl).1
    have x4:=(hX 4 _ rfl).1
    have x5:=(hX 5 _ rfl).1
    have x6:=(hX 6 _ rfl).1
    have x7:=(hX 7 _ rfl).1
    have x8:=(hX 8 _ rfl).1
    have x9:=(hX 9 _ rfl).1
    have x10:=(hX 10 _ rfl).1
    go_wp2_with (first
     | (go_at_call 123;refine (hcall _ hbx).mono ?_;rintro e w1 ⟨rfl,b1⟩)
     | fail)
    have hb2:=hbx.trans (b1.mono hbx.size)
    go_wp2
    go_roundw
    case rel=>exact ⟨i+1,hlt,by go_num,hT2,hb2⟩
    case measure=>simp [RowKit.intOf];omega
   | false=>
    rw [hfq] at hcall
    have hA:=hall.out hfq
    rw [hA] at HA
    subst HA
    clear hac2 hall hfq hA
    go_upto_region 4 with fail
    clear C0 C1 C2 C3 C4 C5 C6 C7 C8 C9 C10
    generalize (wr.alloc (.cells #[.string sn,.int .i64 sl,.int .i64 sc,.bool sb,.bool se,.string sd,.string su,.int .i64 sw,.int .i64 sr,.slice p1 m p3,.slice p4 ni p6] 79))=wx at *
    have x0:=(hX 0 _ rfl).1
    have x1:=(hX 1 _ rfl).1
    have x2:=(hX 2 _ rfl).1
    have x3:=(hX 3 _ rfl).1
    have x4:=(hX 4 _ rfl).1
    have x5:=(hX 5 _ rfl).1
    have x6:=(hX 6 _ rfl).1
    have x7:=(hX 7 _ rfl).1
    have x8:=(hX 8 _ rfl).1
    have x9:=(hX 9 _ rfl).1
    have x10:=(hX 10 _ rfl).1
    go_wp2_with (first
     | (go_at_call 123;refine (hcall _ hbx).mono ?_;rintro e w1 ⟨rfl,b1⟩)
     | fail)
    go_ret
    exact ⟨rfl,hbx.trans (b1.mono hbx.size)⟩
  ·have i1:¬ (i:Int) < (n:Int):=by omega
   have hV:V=true:=by
    rw [<- HAA.out,List.all_eq_true]
    have hf:=hT.out
    rw [List.take_of_length_le (by rw [HN.out];omega)] at hf
    exact hf
   subst hV
   go_wp2
   go_ret
   exact ⟨rfl,hb⟩
def RsK (d:Nat):Prop:=∀ (ok:Nat->Prop) (w:World) (l:List (St d)) (v:Value) (n0:Nat),RdK ok w 11 (rSt d ok w) l v->(∀ t∈l,StK d t)->Pow w->Calls Tryz.prog 99 #[v,.int .i64 (n0:Int)] w fun e w'=>e=.returned (.bool (l.all (stF d n0)))/\Below w.heap.size w w'
theorem rsts_walk {w:World}{v:Value}{n:Int}{b:Bool}(hv:∃ a m cap,v=.slice a m cap) (hk:∀ T,Calls Tryz.prog 122 #[v,.func (.func 123) #[] #[.pointer (some ⟨w.heap.size,0,none⟩)]] (w.alloc (.cells #[.int .i64 n] T)) fun e w'=>e=.returned (.bool b)/\Below (w.alloc (.cells #[.int .i64 n] T)).heap.size (w.alloc (.cells #[.int .i64 n] T)) w'):Calls Tryz.prog 99 #[v,.int .i64 n] w fun e w'=>e=.returned (.bool b)/\Below w.heap.size w w':=by
 have hal:∀ T,Below w.heap.size w (w.alloc (.cells #[.int .i64 n] T)):=fun T=>(Below.refl w.heap.size w).alloc Nat.le.refl _
 obtain ⟨p4,ni,p6,rfl⟩:=hv
 go_enter Tryz.func99,Tryz.ntmps99
 go_upto_region 1 with fail
 go_wp2_with (first
  | (go_at_call 122;refine (hk _).mono ?_;rintro e w1 ⟨rfl,b1⟩)
  | fail)
 go_ret
 exact ⟨rfl,(hal _).trans (b1.mono (hal _).size)⟩
theorem rsts_in {d:Nat}(ok:Nat->Prop) (w:World) (l:List (St (d+1))) (v:Value) (n0:Nat) (h:RdK ok w 11 (rSt (d+1) ok w) l v) (hk:∀ t∈l,HdK t.1) (hin:∀ t∈l,∀ (w1:World) (v1:Value),RdK ok w1 11 (rSt d ok w1) t.2 v1->Pow w1->Calls Tryz.prog 99 #[v1,.int .i64 ((n0:Int)+1)] w1 fun e w'=>e=.returned (.bool (t.2.all (stF d (n0+1))))/\Below w1.heap.size w1 w') (hp:Pow w):Calls Tryz.prog 99 #[v,.int .i64 (n0:Int)] w fun e w'=>e=.returned (.bool (l.all (stF (d+1) n0)))/\Below w.heap.size w w':=by
 refine rsts_walk (h.form.elim fun a x=>x.elim fun cap y=>⟨a,_,cap,y.1⟩) fun T=>?_
 have hal:Below w.heap.size w (w.alloc (.cells #[.int .i64 (n0:Int)] T)):=(Below.refl w.heap.size w).alloc Nat.le.refl _
 have hX:Bn (w.alloc (.cells #[.int .i64 (n0:Int)] T)) w.heap.size [.int .i64 (n0:Int)]:=Bn.new w [.int .i64 (n0:Int)] T _ rfl
 exact everySt_any (h.stay (kp_st (d+1)) (ok':=ok) (fun b hb hl=>⟨hb,hal.block b hl⟩)) hk hin (hp.below hal) (by simp) (hX 0 _ rfl).1
theorem rsts_zero:RsK 0:=by
 intro ok w l v n0 h hk hp
 have hl:l=[]:=by
  cases l with
  | nil=>rfl
  | cons t r=>exact Empty.elim t
 subst hl
 exact rsts_in (d:=0) ok w [] v n0 (by
  obtain ⟨a,cap,e,h1,h2,h3⟩:=h
  refine ⟨a,cap,e,h1,h2,?_⟩
  exact fun i hi=>absurd hi (Nat.not_lt_zero i)) (fun t ht=>by simp at ht) (fun t ht=>by simp at ht) hp
theorem rsts_step {d:Nat}(IH:RsK d):RsK (d+1):=by
 intro ok w l v n0 h hk hp
 refine rsts_in ok w l v n0 h (fun t ht=>(hk t ht).1) (fun t ht w1 v1 hr hp1=>?_) hp
 have:=IH ok w1 t.2 v1 (n0+1) hr (hk t ht).2 hp1
 rw [Int.natCast_add] at this
 exact this
theorem rsts_any:∀ d,RsK d
 | 0=>rsts_zero
 | d+1=>rsts_step (rsts_any d)
theorem formed_walk (s0:ByteArray) (n pl pc:Int) (p1:Option Addr) (m p3:Nat) (p4:Option Addr) (ni p6:Nat) (bv bs:Bool) (w:World) (hs0:s0.size<=140737488351232) (hv:∀ w1,Below w.heap.size w w1->Calls Tryz.prog 97 #[.slice p1 m p3,.func (.func 98) #[] #[]] w1 fun e w'=>e=.returned (.bool bv)/\Below w1.heap.size w1 w') (hs:∀ w1,Below w.heap.size w w1->Calls Tryz.prog 99 #[.slice p4 ni p6,.int .i64 1] w1 fun e w'=>e=.returned (.bool bs)/\Below w1.heap.size w1 w'):Calls Tryz.prog 66 #[.agg #[.string s0,.int .i64 n,.int .i64 pl,.int .i64 pc,.slice p1 m p3,.slice p4 ni p6]] w fun e w'=>e=.returned (.bool (plainB (bl s0) && nbB n && bv && bs))/\Below w.heap.size w w':=by
 have hal:Below w.heap.size w (w.alloc (.cells #[.string s0,.int .i64 n,.int .i64 pl,.int .i64 pc,.slice p1 m p3,.slice p4 ni p6] 42)):=(Below.refl w.heap.size w).alloc Nat.le.refl _
 have hX:Bn (w.alloc (.cells #[.string s0,.int .i64 n,.int .i64 pl,.int .i64 pc,.slice p1 m p3,.slice p4 ni p6] 42)) w.heap.size [.string s0,.int .i64 n,.int .i64 pl,.int .i64 pc,.slice p1 m p3,.slice p4 ni p6]:=Bn.new w [.string s0,.int .i64 n,.int .i64 pl,.int .i64 pc,.slice p1 m p3,.slice p4 ni p6] 42 _ rfl
 all_goals (
  go_enter Tryz.func66,Tryz.ntmps66
  go_upto_region 1 with fail
  generalize (w.alloc (.cells #[.string s0,.int .i64 n,.int .i64 pl,.int .i64 pc,.slice p1 m p3,.slice p4 ni p6] 42))=wx at *
  have hB:Below wx.heap.size wx wx:=Below.refl _ _
  have x0:=(hX 0 _ rfl).1
  have x1:=(hX 1 _ rfl).1
  have x2:=(hX 2 _ rfl).1
  have x3:=(hX 3 _ rfl).1
  have x4:=(hX 4 _ rfl).1
  have x5:=(hX 5 _ rfl).1
  go_wp2_with (first
   | (go_at_call 95;refine (rnameB _ _ (by assumption)).mono ?_;rintro e w1 ⟨rfl,b1⟩;have hB:=Below.nx hB b1;obtain ⟨x1,_⟩:=(hX.on hB) 1 _ rfl;obtain ⟨x4,_⟩:=(hX.on hB) 4 _ rfl;obtain ⟨x5,_⟩:=(hX.on hB) 5 _ rfl)
   | (go_at_call 96;refine (rnum_any _ _).mono ?_;rintro e w1 ⟨rfl,b1⟩;have hB:=Below.nx hB b1;obtain ⟨x4,_⟩:=(hX.on hB) 4 _ rfl;obtain ⟨x5,_⟩:=(hX.on hB) 5 _ rfl)
   | (go_at_call 97;refine (hv _ (hal.trans (hB.mono hal.size))).mono ?_;rintro e w1 ⟨rfl,b1⟩;have hB:=Below.nx hB b1;obtain ⟨x5,_⟩:=(hX.on hB) 5 _ rfl)
   | (go_at_call 99;refine (hs _ (hal.trans (hB.mono hal.size))).mono ?_;rintro e w1 ⟨rfl,b1⟩;have hB:=Below.nx hB b1;skip)
   | fail)
  all_goals (
   go_ret
   exact ⟨by simp [*],hal.trans (hB.mono hal.size)⟩))
def ChK (d:Nat) (c:ChG d):Prop:=c.1.1.length<=140737488351232/\(∀ x∈c.2.2.1,x.1.length<=140737488351232)/\∀ t∈c.2.2.2,StK d t
theorem formedC_any {ok:Nat->Prop}{w:World}{d:Nat}{c:ChG d}{v:Value}(h:RdC ok w d c v) (hk:ChK d c) (hp:Pow w):Calls Tryz.prog 66 #[v] w fun e w'=>e=.returned (.bool (chF d c))/\Below w.heap.size w w':=by
 obtain ⟨sv,ss,rfl,hv,hs⟩:=h
 obtain ⟨s0,a1,a2,a3⟩:=sV_out c.1.1 hk.1
 have e:chF d c=(plainB (bl s0) && nbB c.2.1 && c.2.2.1.all varF && c.2.2.2.all (stF d 1)):=by rw [a2];rfl
 rw [a1,e]
 have kv:∀ w1,Below w.heap.size w w1->Calls Tryz.prog 97 #[sv,.func (.func 98) #[] #[]] w1 fun e w'=>e=.returned (.bool (c.2.2.1.all varF))/\Below w1.heap.size w1 w':=fun w1 b1=>everyVar_any (hv.stay kp_var (ok':=ok) (fun b hb hl=>⟨hb,b1.block b hl⟩)) hk.2.1
 have ks:∀ w1,Below w.heap.size w w1->Calls Tryz.prog 99 #[ss,.int .i64 1] w1 fun e w'=>e=.returned (.bool (c.2.2.2.all (stF d 1)))/\Below w1.heap.size w1 w':=fun w1 b1=>rsts_any d ok w1 c.2.2.2 ss 1 (hs.stay (kp_st d) (ok':=ok) (fun b hb hl=>⟨hb,b1.block b hl⟩)) hk.2.2 (hp.below b1)
 obtain ⟨p1,p3,rfl,_⟩:=hv.form
 obtain ⟨p4,p6,rfl,_⟩:=hs.form
 exact formed_walk s0 _ _ _ p1 _ p3 p4 _ p6 _ _ w a3 kv ks
theorem run_storeF (P:Program) (w:World) (a:Addr) (m:Mode) (f:Fn) (x y:Array Value):(store a (.func f x y) m).run P w=stored P w a (.func f x y) m:=run_store P w a _ m rfl
attribute [local go_sem] run_storeF
def rdsC {d:Nat}(c:ChG d) (fs:List (Int × SgS)):List (Int × Option Pl):=[(4,tmR c fs),(14,ntR c fs),(3,orR fs),(5,unR c fs),(16,miR fs),(15,asR fs),(17,bwR fs)]
def ckL:List (Int × Option Pl)->Pl × Int
 | []=>((0,0),0)
 | (n,some a) :: _=>(a,n)
 | (_,none) :: r=>ckL r
def ckC {d:Nat}(c:ChG d):Pl × Int:=if chF d c=true then ckL (rdsC c (fsC c)) else ((0,0),1)
theorem rounds_any (W:World) (Lb:Nat):Calls Tryz.prog 68 #[.pointer (some ⟨Lb,0,none⟩)] W fun e w'=>e=.returned (.slice (some ⟨W.heap.size,0,none⟩) 7 7)/\w'=W.alloc (.cells #[.int .i64 4,.func (.func 101) #[.pointer (some ⟨Lb,0,none⟩)] #[],.int .i64 14,.func (.func 102) #[.pointer (some ⟨Lb,0,none⟩)] #[],.int .i64 3,.func (.func 103) #[.pointer (some ⟨Lb,0,none⟩)] #[],.int .i64 5,.func (.func 104) #[.pointer (some ⟨Lb,0,none⟩)] #[],.int .i64 16,.func (.func 105) #[.pointer (some ⟨Lb,0,none⟩)] #[],.int .i64 15,.func (.func 106) #[.pointer (some ⟨Lb,0,none⟩)] #[],.int .i64 17,.func (.func 107) #[.pointer (some ⟨Lb,0,none⟩)] #[]] 168):=by
 go_enter Tryz.func68,Tryz.ntmps68
 go_wp2
 go_ret
 exact ⟨rfl,rfl⟩
theorem chk_res {w:World}{R:Nat}{a b q:Int}{tmps:Array Value}(hR:Bn w R [.int .i64 a,.int .i64 b]) (ht:tmps.getD 2 undef=.pointer (some ⟨R,0,none⟩)) (ht2:tmps.getD 3 undef=.int .i64 q):(results Tryz.f52 tmps).run Tryz.prog w=.ok (.tuple #[.agg #[.int .i64 a,.int .i64 b],.int .i64 q]) w:=by
 have ht':tmps[2]?.getD undef=.pointer (some ⟨R,0,none⟩):=by simpa using ht
 have ht2':tmps[3]?.getD undef=.int .i64 q:=by simpa using ht2
 have c0:=(hR 0 _ rfl).1
 have c1:=(hR 1 _ rfl).1
 simp [results,Tryz.results52,go_sem,ht',ht2',c0,c1]
theorem check_any {ok:Nat->Prop}{w:World}{d:Nat}{c:ChG d}{v:Value}(h:RdC ok w d c v) (hok:∀ b,ok b->b < w.heap.size) (hfo:FoOk ⟨d,c.2.2.2⟩) (hk:ChK d c) (hp:Pow w) (hf:FsOk c (fsC c)) :
  Calls Tryz.prog 52 #[v] w fun e w'=>e=.returned (.tuple #[.agg #[.int .i64 (ckC c).1.1,.int .i64 (ckC c).1.2],.int .i64 (ckC c).2])/\Below w.heap.size w w':=by
 have hfm:=fun w1 (b:Below w.heap.size w w1)=>formedC_any (h.keep (ok':=ok) (w':=w1) (fun b' hb hl=>⟨hb,b.block b' hl⟩)) hk (hp.below b)
 have hla:=fun w1 (b:Below w.heap.size w w1)=>laid_any (h.keep (ok':=ok) (w':=w1) (fun b' hb hl=>⟨hb,b.block b' hl⟩)) (fun b' hb=>Nat.lt_of_lt_of_le (hok b' hb) b.size) hfo
 obtain ⟨fs,hfs⟩:∃ fs,fsC c=fs:=⟨_,rfl⟩
 obtain ⟨F,hF⟩:∃ F,chF d c=F:=⟨_,rfl⟩
 have HCK:Hid (ckC c=if F=true then ckL (rdsC c fs) else ((0,0),1)):=by show _=_;unfold ckC;rw [hF,hfs]
 rw [hfs] at hla hf
 rw [hF] at hfm
 obtain ⟨sv,ss,rfl,hv,hs⟩:=h
 obtain ⟨va,vc,rfl,_⟩:=hv.form
 obtain ⟨sa,sc,rfl,_⟩:=hs.form
 obtain ⟨nm,hnm⟩:∃ nm:ByteArray,sV c.1.1=.string nm:=⟨_,rfl⟩
 obtain ⟨nv,hnv⟩:∃ n,c.2.2.1.length=n:=⟨_,rfl⟩
 obtain ⟨ns,hns⟩:∃ n,c.2.2.2.length=n:=⟨_,rfl⟩
 obtain ⟨vn,hvn⟩:∃ x,c.2.1=x:=⟨_,rfl⟩
 obtain ⟨ln,hln⟩:∃ x,c.1.2.1=x:=⟨_,rfl⟩
 obtain ⟨co,hco⟩:∃ x,c.1.2.2=x:=⟨_,rfl⟩
 rw [hnm,hvn,hln,hco,hnv,hns] at hfm hla ⊢
 have HF:=mkHid hf
 clear hv hs hnm hnv hns hvn hln hco hfs hF hk hfo hf
 have hal:Below w.heap.size w ((w.alloc (.cells #[.string nm,.int .i64 vn,.int .i64 ln,.int .i64 co,.slice va nv vc,.slice sa ns sc] 42)).alloc (.cells #[.int .i64 0,.int .i64 0] 23)):=((Below.refl _ _).alloc Nat.le.refl _).alloc (by simp) _
 have hX:Bn ((w.alloc (.cells #[.string nm,.int .i64 vn,.int .i64 ln,.int .i64 co,.slice va nv vc,.slice sa ns sc] 42)).alloc (.cells #[.int .i64 0,.int .i64 0] 23)) w.heap.size [.string nm,.int .i64 vn,.int .i64 ln,.int .i64 co,.slice va nv vc,.slice sa ns sc]:=(Bn.new w [.string nm,.int .i64 vn,.int .i64 ln,.int .i64 co,.slice va nv vc,.slice sa ns sc] 42 _ rfl).on ((Below.refl _ _).alloc Nat.le.refl _)
 have h2:Bn ((w.alloc (.cells #[.string nm,.int .i64 vn,.int .i64 ln,.int .i64 co,.slice va nv vc,.slice sa ns sc] 42)).alloc (.cells #[.int .i64 0,.int .i64 0] 23)) (w.heap.size+1) [.int .i64 0,.int .i64 0]:=Bn.new _ [.int .i64 0,.int .i64 0] 23 (w.heap.size+1) (by simp)
 go_enter Tryz.func52,Tryz.ntmps52
 go_upto_region 1 with fail
 generalize ((w.alloc (.cells #[.string nm,.int .i64 vn,.int .i64 ln,.int .i64 co,.slice va nv vc,.slice sa ns sc] 42)).alloc (.cells #[.int .i64 0,.int .i64 0] 23))=wx at *
 have x0:=(hX 0 _ rfl).1
 have x1:=(hX 1 _ rfl).1
 have x2:=(hX 2 _ rfl).1
 have x3:=(hX 3 _ rfl).1
 have x4:=(hX 4 _ rfl).1
 have x5:=(hX 5 _ rfl).1
 cases F with
 | false=>
  go_upto_region 2 with (first|(go_at_call 66;refine (hfm _ hal).mono ?_;rintro e w1 ⟨rfl,b1⟩)|fail)
  have h2':=h2.on b1
  obtain ⟨y0,f0⟩:=h2' 0 _ rfl
  obtain ⟨y1,f1⟩:=h2' 1 _ rfl
  have hz:=(h2'.set (i:=0) (by simp) (.int .i64 0)).set (i:=1) (by simp) (.int .i64 0)
  have hbz:=putL_below [.int .i64 0,.int .i64 0] w1 (w.heap.size+1) 0 (hal.trans (b1.mono hal.size)) (by omega)
  go_wp2
  exact bodyPost_ret (chk_res hz rfl rfl) rfl ⟨by rw [HCK.out];rfl,hbz⟩
 | true=>
  go_upto_region 3 with (first|(go_at_call 66;refine (hfm _ hal).mono ?_;rintro e w1 ⟨rfl,b1⟩)|fail)
  have hX1:=hX.on b1
  have x0:=(hX1 0 _ rfl).1
  have x1:=(hX1 1 _ rfl).1
  have x2:=(hX1 2 _ rfl).1
  have x3:=(hX1 3 _ rfl).1
  have x4:=(hX1 4 _ rfl).1
  have x5:=(hX1 5 _ rfl).1
  have hb1:=hal.trans (b1.mono hal.size)
  go_upto_region 4 with (first|(go_at_call 67;refine (hla _ hb1).mono ?_;rintro e w2 ⟨rfl,hLy,b2⟩)|fail)
  obtain ⟨Lb,hLb⟩:∃ Lb,w1.heap.size+1=Lb:=⟨_,rfl⟩
  rw [hLb] at hLy ⊢
  have hb2:=hb1.trans (b2.mono hb1.size)
  have h2w:=(h2.on b1).on b2
  have HLy:=mkHid hLy
  clear hLy hla hfm b1 b2 hX hX1 h2 x0 x1 x2 x3 x4 x5 hal hb1 hLb
  have hro:=rounds_any w2 Lb
  have hal2:Below w2.heap.size w2 (w2.alloc (.cells #[.int .i64 4,.func (.func 101) #[.pointer (some ⟨Lb,0,none⟩)] #[],.int .i64 14,.func (.func 102) #[.pointer (some ⟨Lb,0,none⟩)] #[],.int .i64 3,.func (.func 103) #[.pointer (some ⟨Lb,0,none⟩)] #[],.int .i64 5,.func (.func 104) #[.pointer (some ⟨Lb,0,none⟩)] #[],.int .i64 16,.func (.func 105) #[.pointer (some ⟨Lb,0,none⟩)] #[],.int .i64 15,.func (.func 106) #[.pointer (some ⟨Lb,0,none⟩)] #[],.int .i64 17,.func (.func 107) #[.pointer (some ⟨Lb,0,none⟩)] #[]] 168)):=(Below.refl _ _).alloc Nat.le.refl _
  have hRo:Bn (w2.alloc (.cells #[.int .i64 4,.func (.func 101) #[.pointer (some ⟨Lb,0,none⟩)] #[],.int .i64 14,.func (.func 102) #[.pointer (some ⟨Lb,0,none⟩)] #[],.int .i64 3,.func (.func 103) #[.pointer (some ⟨Lb,0,none⟩)] #[],.int .i64 5,.func (.func 104) #[.pointer (some ⟨Lb,0,none⟩)] #[],.int .i64 16,.func (.func 105) #[.pointer (some ⟨Lb,0,none⟩)] #[],.int .i64 15,.func (.func 106) #[.pointer (some ⟨Lb,0,none⟩)] #[],.int .i64 17,.func (.func 107) #[.pointer (some ⟨Lb,0,none⟩)] #[]] 168)) w2.heap.size [.int .i64 4,.func (.func 101) #[.pointer (some ⟨Lb,0,none⟩)] #[],.int .i64 14,.func (.func 102) #[.pointer (some ⟨Lb,0,none⟩)] #[],.int .i64 3,.func (.func 103) #[.pointer (some ⟨Lb,0,none⟩)] #[],.int .i64 5,.func (.func 104) #[.pointer (some ⟨Lb,0,none⟩)] #[],.int .i64 16,.func (.func 105) #[.pointer (some ⟨Lb,0,none⟩)] #[],.int .i64 15,.func (.func 106) #[.pointer (some ⟨Lb,0,none⟩)] #[],.int .i64 17,.func (.func 107) #[.pointer (some ⟨Lb,0,none⟩)] #[]]:=Bn.new w2 [.int .i64 4,.func (.func 101) #[.pointer (some ⟨Lb,0,none⟩)] #[],.int .i64 14,.func (.func 102) #[.pointer (some ⟨Lb,0,none⟩)] #[],.int .i64 3,.func (.func 103) #[.pointer (some ⟨Lb,0,none⟩)] #[],.int .i64 5,.func (.func 104) #[.pointer (some ⟨Lb,0,none⟩)] #[],.int .i64 16,.func (.func 105) #[.pointer (some ⟨Lb,0,none⟩)] #[],.int .i64 15,.func (.func 106) #[.pointer (some ⟨Lb,0,none⟩)] #[],.int .i64 17,.func (.func 107) #[.pointer (some ⟨Lb,0,none⟩)] #[]] 168 _ rfl
  go_upto_region 5 with (first|(go_at_call 68;refine hro.mono ?_;rintro e w3 ⟨rfl,rfl⟩)|fail)
  have h2w3:=h2w.on hal2
  have HLy3:=mkHid (HLy.out.on hal2)
  have hb3:Below w.heap.size w (w2.alloc (.cells #[.int .i64 4,.func (.func 101) #[.pointer (some ⟨Lb,0,none⟩)] #[],.int .i64 14,.func (.func 102) #[.pointer (some ⟨Lb,0,none⟩)] #[],.int .i64 3,.func (.func 103) #[.pointer (some ⟨Lb,0,none⟩)] #[],.int .i64 5,.func (.func 104) #[.pointer (some ⟨Lb,0,none⟩)] #[],.int .i64 16,.func (.func 105) #[.pointer (some ⟨Lb,0,none⟩)] #[],.int .i64 15,.func (.func 106) #[.pointer (some ⟨Lb,0,none⟩)] #[],.int .i64 17,.func (.func 107) #[.pointer (some ⟨Lb,0,none⟩)] #[]] 168)):=hb2.trans (hal2.mono hb2.size)
  have hsz3:w.heap.size+1 < w2.heap.size:=h2w.lt
  generalize w2.alloc (.cells #[.int .i64 4,.func (.func 101) #[.pointer (some ⟨Lb,0,none⟩)] #[],.int .i64 14,.func (.func 102) #[.pointer (some ⟨Lb,0,none⟩)] #[],.int .i64 3,.func (.func 103) #[.pointer (some ⟨Lb,0,none⟩)] #[],.int .i64 5,.func (.func 104) #[.pointer (some ⟨Lb,0,none⟩)] #[],.int .i64 16,.func (.func 105) #[.pointer (some ⟨Lb,0,none⟩)] #[],.int .i64 15,.func (.func 106) #[.pointer (some ⟨Lb,0,none⟩)] #[],.int .i64 17,.func (.func 107) #[.pointer (some ⟨Lb,0,none⟩)] #[]] 168)=w3 at *
  obtain ⟨R,hR⟩:∃ R,w2.heap.size=R:=⟨_,rfl⟩
  rw [hR] at hRo hsz3 ⊢
  clear hR hal2 HLy h2w hb2 hro
  go_wp2
  go_loopw [18] (fun ix wr=>∃ (j:Nat) (k:Int),k=j/\j<=7/\ix=.int .i64 k/\Hid (ckL (rdsC c fs)=ckL ((rdsC c fs).drop j))/\Below w3.heap.size w3 wr) (fun ix _=>7 - (RowKit.intOf ix).toNat)
  case atStart=>exact ⟨0,0,rfl,by omega,rfl,rfl,Below.refl _ _⟩
  case round=>
   obtain ⟨j,k,hkj,hj7,rfl,HX,hb⟩:=hrel
   have hRr:=hRo.on hb
   have h2r:=h2w3.on hb
   have HLr:=mkHid (HLy3.out.on hb)
   have hbr:Below w.heap.size w wr:=hb3.trans (hb.mono hb3.size)
   have hRl:=hRr.lt
   obtain hj|hj|hj|hj|hj|hj|hj|hj:j=0∨j=1∨j=2∨j=3∨j=4∨j=5∨j=6∨j=7:=by omega
   ·obtain rfl:k=0:=by omega
    have hdr:(rdsC c fs).drop 0=(4,tmR c fs) :: (rdsC c fs).drop 1:=rfl
    have hal4:Below wr.heap.size wr (wr.alloc (.cells #[.int .i64 4,.func (.func 101) #[.pointer (some ⟨Lb,0,none⟩)] #[]] 168)):=(Below.refl _ _).alloc Nat.le.refl _
    have hY:Bn (wr.alloc (.cells #[.int .i64 4,.func (.func 101) #[.pointer (some ⟨Lb,0,none⟩)] #[]] 168)) wr.heap.size [.int .i64 4,.func (.func 101) #[.pointer (some ⟨Lb,0,none⟩)] #[]]:=Bn.new wr [.int .i64 4,.func (.func 101) #[.pointer (some ⟨Lb,0,none⟩)] #[]] 168 _ rfl
    have hc:=tmR_any (HLr.out.on hal4) HF.out
    have h2y:=h2r.on hal4
    have e0:=(hRr 0 _ rfl).1
    have e1:=(hRr 1 _ rfl).1
    rw [hj,hdr] at HX
    obtain ⟨O,hO⟩:∃ O,tmR c fs=O:=⟨_,rfl⟩
    rw [hO] at hc HX
    have hbY:=hb.trans (hal4.mono hb.size)
    have hbyw:=hbr.trans (hal4.mono hbr.size)
    clear hdr hO hj hkj hj7
    go_upto_region 7 with fail
    generalize (wr.alloc (.cells #[.int .i64 4,.func (.func 101) #[.pointer (some ⟨Lb,0,none⟩)] #[]] 168))=wy at *
    obtain ⟨Y,hYY⟩:∃ Y,wr.heap.size=Y:=⟨_,rfl⟩
    rw [hYY] at hY ⊢
    have hYg:w.heap.size+1 < Y:=by rw [<- hYY];exact Nat.lt_trans hsz3 hRl
    have y1:=(hY 1 _ rfl).1
    clear hYY hal4
    cases O with
    | none=>
     have HE:Hid (ckL (rdsC c fs)=ckL ((rdsC c fs).drop 1)):=HX
     rw [show anP none=.tuple #[.agg #[.int .i64 0,.int .i64 0],.bool false] from rfl] at hc
     go_wp2_with (first|(go_at_call 101;refine hc.mono ?_;rintro e w5 ⟨rfl,b5⟩)|fail)
     have hbb:Below w3.heap.size w3 (w5.alloc (.cells #[.int .i64 0,.int .i64 0] 23)):=(hbY.trans (b5.mono hbY.size)).alloc (Nat.le_trans hbY.size b5.size) _
     go_roundw
     case rel=>exact ⟨1,1,rfl,by omega,rfl,HE,hbb⟩
     case measure=>simp [RowKit.intOf]
    | some a=>
     have HE:Hid (ckC c=(a,4)):=by
      show _=_
      rw [HCK.out]
      (first|rw [if_pos rfl]|rw [if_pos trivial])
      exact HX.out
     obtain ⟨a1,a2⟩:=a
     rw [show anP (some (a1,a2))=.tuple #[.agg #[.int .i64 a1,.int .i64 a2],.bool true] from rfl] at hc
     go_upto_region 9 with (first|(go_at_call 101;refine hc.mono ?_;rintro e w5 ⟨rfl,b5⟩)|fail)
     have hal6:Below w5.heap.size w5 (w5.alloc (.cells #[.int .i64 a1,.int .i64 a2] 23)):=(Below.refl _ _).alloc Nat.le.refl _
     have hP:Bn (w5.alloc (.cells #[.int .i64 a1,.int .i64 a2] 23)) w5.heap.size [.int .i64 a1,.int .i64 a2]:=Bn.new w5 [.int .i64 a1,.int .i64 a2] 23 _ rfl
     have hY6:=(hY.on b5).on hal6
     have h26:=(h2y.on b5).on hal6
     have hY5:=(hY.on b5).lt
     have hb6:Below w.heap.size w (w5.alloc (.cells #[.int .i64 a1,.int .i64 a2] 23)):=(hbyw.trans (b5.mono hbyw.size)).trans (hal6.mono (Nat.le_trans hbyw.size b5.size))
     generalize w5.alloc (.cells #[.int .i64 a1,.int .i64 a2] 23)=wz at *
     obtain ⟨Z,hZZ⟩:∃ Z,w5.heap.size=Z:=⟨_,rfl⟩
     rw [hZZ] at hP hY5 ⊢
     have n1:Z≠w.heap.size+1:=by omega
     have n2:Y≠w.heap.size+1:=by omega
     have p0:=(hP 0 _ rfl).1
     have p1:=(hP 1 _ rfl).1
     have q0:=(hY6 0 _ rfl).1
     obtain ⟨u0,f0⟩:=h26 0 _ rfl
     obtain ⟨u1,f1⟩:=h26 1 _ rfl
     go_region_held_law (fun w'=>w'.cell? ⟨Z,0,none⟩=some (.int .i64 a1)/\w'.cell? ⟨Z,1,none⟩=some (.int .i64 a2)/\w'.cell? ⟨Y,0,none⟩=some (.int .i64 4))
      ((refine ⟨?_,?_,?_⟩<;>(repeat (with_reducible first|exact p0|exact p1|exact q0|refine cell_dr ?_|refine cell_far4 (ne_pt n1) ?_|refine cell_far4 (ne_pt n2) ?_))<;>done))
      (fail)
     all_goals (
      have hz:=(h26.set (i:=0) (by simp) (.int .i64 a1)).set (i:=1) (by simp) (.int .i64 a2)
      have hbz:=putL_below [.int .i64 a1,.int .i64 a2] wz (w.heap.size+1) 0 hb6 (by omega)
      go_wp2
      exact bodyPost_ret (chk_res (w:=_) hz rfl rfl) rfl ⟨by rw [HE.out],hbz.drew⟩)
   ·obtain rfl:k=1:=by omega
    have hdr:(rdsC c fs).drop 1=(14,ntR c fs) :: (rdsC c fs).drop 2:=rfl
    have hal4:Below wr.heap.size wr (wr.alloc (.cells #[.int .i64 14,.func (.func 102) #[.pointer (some ⟨Lb,0,none⟩)] #[]] 168)):=(Below.refl _ _).alloc Nat.le.refl _
    have hY:Bn (wr.alloc (.cells #[.int .i64 14,.func (.func 102) #[.pointer (some ⟨Lb,0,none⟩)] #[]] 168)) wr.heap.size [.int .i64 14,.func (.func 102) #[.pointer (some ⟨Lb,0,none⟩)] #[]]:=Bn.new wr [.int .i64 14,.func (.func 102) #[.pointer (some ⟨Lb,0,none⟩)] #[]] 168 _ rfl
    have hc:=ntR_any (HLr.out.on hal4) HF.out
    have h2y:=h2r.on hal4
    have e0:=(hRr 2 _ rfl).1
    have e1:=(hRr 3 _ rfl).1
    rw [hj,hdr] at HX
    obtain ⟨O,hO⟩:∃ O,ntR c fs=O:=⟨_,rfl⟩
    rw [hO] at hc HX
    have hbY:=hb.trans (hal4.mono hb.size)
    have hbyw:=hbr.trans (hal4.mono hbr.size)
    clear hdr hO hj hkj hj7
    go_upto_region 7 with fail
    generalize (wr.alloc (.cells #[.int .i64 14,.func (.func 102) #[.pointer (some ⟨Lb,0,none⟩)] #[]] 168))=wy at *
    obtain ⟨Y,hYY⟩:∃ Y,wr.heap.size=Y:=⟨_,rfl⟩
    rw [hYY] at hY ⊢
    have hYg:w.heap.size+1 < Y:=by rw [<- hYY];exact Nat.lt_trans hsz3 hRl
    have y1:=(hY 1 _ rfl).1
    clear hYY hal4
    cases O with
    | none=>
     have HE:Hid (ckL (rdsC c fs)=ckL ((rdsC c fs).drop 2)):=HX
     rw [show anP none=.tuple #[.agg #[.int .i64 0,.int .i64 0],.bool false] from rfl] at hc
     go_wp2_with (first|(go_at_call 102;refine hc.mono ?_;rintro e w5 ⟨rfl,b5⟩)|fail)
     have hbb:Below w3.heap.size w3 (w5.alloc (.cells #[.int .i64 0,.int .i64 0] 23)):=(hbY.trans (b5.mono hbY.size)).alloc (Nat.le_trans hbY.size b5.size) _
     go_roundw
     case rel=>exact ⟨2,2,rfl,by omega,rfl,HE,hbb⟩
     case measure=>simp [RowKit.intOf]
    | some a=>
     have HE:Hid (ckC c=(a,14)):=by
      show _=_
      rw [HCK.out]
      (first|rw [if_pos rfl]|rw [if_pos trivial])
      exact HX.out
     obtain ⟨a1,a2⟩:=a
     rw [show anP (some (a1,a2))=.tuple #[.agg #[.int .i64 a1,.int .i64 a2],.bool true] from rfl] at hc
     go_upto_region 9 with (first|(go_at_call 102;refine hc.mono ?_;rintro e w5 ⟨rfl,b5⟩)|fail)
     have hal6:Below w5.heap.size w5 (w5.alloc (.cells #[.int .i64 a1,.int .i64 a2] 23)):=(Below.refl _ _).alloc Nat.le.refl _
     have hP:Bn (w5.alloc (.cells #[.int .i64 a1,.int .i64 a2] 23)) w5.heap.size [.int .i64 a1,.int .i64 a2]:=Bn.new w5 [.int .i64 a1,.int .i64 a2] 23 _ rfl
     have hY6:=(hY.on b5).on hal6
     have h26:=(h2y.on b5).on hal6
     have hY5:=(hY.on b5).lt
     have hb6:Below w.heap.size w (w5.alloc (.cells #[.int .i64 a1,.int .i64 a2] 23)):=(hbyw.trans (b5.mono hbyw.size)).trans (hal6.mono (Nat.le_trans hbyw.size b5.size))
     generalize w5.alloc (.cells #[.int .i64 a1,.int .i64 a2] 23)=wz at *
     obtain ⟨Z,hZZ⟩:∃ Z,w5.heap.size=Z:=⟨_,rfl⟩
     rw [hZZ] at hP hY5 ⊢
     have n1:Z≠w.heap.size+1:=by omega
     have n2:Y≠w.heap.size+1:=by omega
     have p0:=(hP 0 _ rfl).1
     have p1:=(hP 1 _ rfl).1
     have q0:=(hY6 0 _ rfl).1
     obtain ⟨u0,f0⟩:=h26 0 _ rfl
     obtain ⟨u1,f1⟩:=h26 1 _ rfl
     go_region_held_law (fun w'=>w'.cell? ⟨Z,0,none⟩=some (.int .i64 a1)/\w'.cell? ⟨Z,1,none⟩=some (.int .i64 a2)/\w'.cell? ⟨Y,0,none⟩=some (.int .i64 14))
      ((refine ⟨?_,?_,?_⟩<;>(repeat (with_reducible first|exact p0|exact p1|exact q0|refine cell_dr ?_|refine cell_far4 (ne_pt n1) ?_|refine cell_far4 (ne_pt n2) ?_))<;>done))
      (fail)
     all_goals (
      have hz:=(h26.set (i:=0) (by simp) (.int .i64 a1)).set (i:=1) (by simp) (.int .i64 a2)
      have hbz:=putL_below [.int .i64 a1,.int .i64 a2] wz (w.heap.size+1) 0 hb6 (by omega)
      go_wp2
      exact bodyPost_ret (chk_res (w:=_) hz rfl rfl) rfl ⟨by rw [HE.out],hbz.drew⟩)
   ·obtain rfl:k=2:=by omega
    have hdr:(rdsC c fs).drop 2=(3,orR fs) :: (rdsC c fs).drop 3:=rfl
    have hal4:Below wr.heap.size wr (wr.alloc (.cells #[.int .i64 3,.func (.func 103) #[.pointer (some ⟨Lb,0,none⟩)] #[]] 168)):=(Below.refl _ _).alloc Nat.le.refl _
    have hY:Bn (wr.alloc (.cells #[.int .i64 3,.func (.func 103) #[.pointer (some ⟨Lb,0,none⟩)] #[]] 168)) wr.heap.size [.int .i64 3,.func (.func 103) #[.pointer (some ⟨Lb,0,none⟩)] #[]]:=Bn.new wr [.int .i64 3,.func (.func 103) #[.pointer (some ⟨Lb,0,none⟩)] #[]] 168 _ rfl
    have hc:=orR_any (HLr.out.on hal4) HF.out
    have h2y:=h2r.on hal4
    have e0:=(hRr 4 _ rfl).1
    have e1:=(hRr 5 _ rfl).1
    rw [hj,hdr] at HX
    obtain ⟨O,hO⟩:∃ O,orR fs=O:=⟨_,rfl⟩
    rw [hO] at hc HX
    have hbY:=hb.trans (hal4.mono hb.size)
    have hbyw:=hbr.trans (hal4.mono hbr.size)
    clear hdr hO hj hkj hj7
    go_upto_region 7 with fail
    generalize (wr.alloc (.cells #[.int .i64 3,.func (.func 103) #[.pointer (some ⟨Lb,0,none⟩)] #[]] 168))=wy at *
    obtain ⟨Y,hYY⟩:∃ Y,wr.heap.size=Y:=⟨_,rfl⟩
    rw [hYY] at hY ⊢
    have hYg:w.heap.size+1 < Y:=by rw [<- hYY];exact Nat.lt_trans hsz3 hRl
    have y1:=(hY 1 _ rfl).1
    clear hYY hal4
    cases O with
    | none=>
     have HE:Hid (ckL (rdsC c fs)=ckL ((rdsC c fs).drop 3)):=HX
     rw [show anP none=.tuple #[.agg #[.int .i64 0,.int .i64 0],.bool false] from rfl] at hc
     go_wp2_with (first|(go_at_call 103;refine hc.mono ?_;rintro e w5 ⟨rfl,b5⟩)|fail)
     have hbb:Below w3.heap.size w3 (w5.alloc (.cells #[.int .i64 0,.int .i64 0] 23)):=(hbY.trans (b5.mono hbY.size)).alloc (Nat.le_trans hbY.size b5.size) _
     go_roundw
     case rel=>exact ⟨3,3,rfl,by omega,rfl,HE,hbb⟩
     case measure=>simp [RowKit.intOf]
    | some a=>
     have HE:Hid (ckC c=(a,3)):=by
      show _=_
      rw [HCK.out]
      (first|rw [if_pos rfl]|rw [if_pos trivial])
      exact HX.out
     obtain ⟨a1,a2⟩:=a
     rw [show anP (some (a1,a2))=.tuple #[.agg #[.int .i64 a1,.int .i64 a2],.bool true] from rfl] at hc
     go_upto_region 9 with (first|(go_at_call 103;refine hc.mono ?_;rintro e w5 ⟨rfl,b5⟩)|fail)
     have hal6:Below w5.heap.size w5 (w5.alloc (.cells #[.int .i64 a1,.int .i64 a2] 23)):=(Below.refl _ _).alloc Nat.le.refl _
     have hP:Bn (w5.alloc (.cells #[.int .i64 a1,.int .i64 a2] 23)) w5.heap.size [.int .i64 a1,.int .i64 a2]:=Bn.new w5 [.int .i64 a1,.int .i64 a2] 23 _ rfl
     have hY6:=(hY.on b5).on hal6
     have h26:=(h2y.on b5).on hal6
     have hY5:=(hY.on b5).lt
     have hb6:Below w.heap.size w (w5.alloc (.cells #[.int .i64 a1,.int .i64 a2] 23)):=(hbyw.trans (b5.mono hbyw.size)).trans (hal6.mono (Nat.le_trans hbyw.size b5.size))
     generalize w5.alloc (.cells #[.int .i64 a1,.int .i64 a2] 23)=wz at *
     obtain ⟨Z,hZZ⟩:∃ Z,w5.heap.size=Z:=⟨_,rfl⟩
     rw [hZZ] at hP hY5 ⊢
     have n1:Z≠w.heap.size+1:=by omega
     have n2:Y≠w.heap.size+1:=by omega
     have p0:=(hP 0 _ rfl).1
     have p1:=(hP 1 _ rfl).1
     have q0:=(hY6 0 _ rfl).1
     obtain ⟨u0,f0⟩:=h26 0 _ rfl
     obtain ⟨u1,f1⟩:=h26 1 _ rfl
     go_region_held_law (fun w'=>w'.cell? ⟨Z,0,none⟩=some (.int .i64 a1)/\w'.cell? ⟨Z,1,none⟩=some (.int .i64 a2)/\w'.cell? ⟨Y,0,none⟩=some (.int .i64 3))
      ((refine ⟨?_,?_,?_⟩<;>(repeat (with_reducible first|exact p0|exact p1|exact q0|refine cell_dr ?_|refine cell_far4 (ne_pt n1) ?_|refine cell_far4 (ne_pt n2) ?_))<;>done))
      (fail)
     all_goals (
      have hz:=(h26.set (i:=0) (by simp) (.int .i64 a1)).set (i:=1) (by simp) (.int .i64 a2)
      have hbz:=putL_below [.int .i64 a1,.int .i64 a2] wz (w.heap.size+1) 0 hb6 (by omega)
      go_wp2
      exact bodyPost_ret (chk_res (w:=_) hz rfl rfl) rfl ⟨by rw [HE.out],hbz.drew⟩)
   ·obtain rfl:k=3:=by omega
    have hdr:(rdsC c fs).drop 3=(5,unR c fs) :: (rdsC c fs).drop 4:=rfl
    have hal4:Below wr.heap.size wr (wr.alloc (.cells #[.int .i64 5,.func (.func 104) #[.pointer (some ⟨Lb,0,none⟩)] #[]] 168)):=(Below.refl _ _).alloc Nat.le.refl _
    have hY:Bn (wr.alloc (.cells #[.int .i64 5,.func (.func 104) #[.pointer (some ⟨Lb,0,none⟩)] #[]] 168)) wr.heap.size [.int .i64 5,.func (.func 104) #[.pointer (some ⟨Lb,0,none⟩)] #[]]:=Bn.new wr [.int .i64 5,.func (.func 104) #[.pointer (some ⟨Lb,0,none⟩)] #[]] 168 _ rfl
    have hc:=unR_any (HLr.out.on hal4) HF.out
    have h2y:=h2r.on hal4
    have e0:=(hRr 6 _ rfl).1
    have e1:=(hRr 7 _ rfl).1
    rw [hj,hdr] at HX
    obtain ⟨O,hO⟩:∃ O,unR c fs=O:=⟨_,rfl⟩
    rw [hO] at hc HX
    have hbY:=hb.trans (hal4.mono hb.size)
    have hbyw:=hbr.trans (hal4.mono hbr.size)
    clear hdr hO hj hkj hj7
    go_upto_region 7 with fail
    generalize (wr.alloc (.cells #[.int .i64 5,.func (.func 104) #[.pointer (some ⟨Lb,0,none⟩)] #[]] 168))=wy at *
    obtain ⟨Y,hYY⟩:∃ Y,wr.heap.size=Y:=⟨_,rfl⟩
    rw [hYY] at hY ⊢
    have hYg:w.heap.size+1 < Y:=by rw [<- hYY];exact Nat.lt_trans hsz3 hRl
    have y1:=(hY 1 _ rfl).1
    clear hYY hal4
    cases O with
    | none=>
     have HE:Hid (ckL (rdsC c fs)=ckL ((rdsC c fs).drop 4)):=HX
     rw [show anP none=.tuple #[.agg #[.int .i64 0,.int .i64 0],.bool false] from rfl] at hc
     go_wp2_with (first|(go_at_call 104;refine hc.mono ?_;rintro e w5 ⟨rfl,b5⟩)|fail)
     have hbb:Below w3.heap.size w3 (w5.alloc (.cells #[.int .i64 0,.int .i64 0] 23)):=(hbY.trans (b5.mono hbY.size)).alloc (Nat.le_trans hbY.size b5.size) _
     go_roundw
     case rel=>exact ⟨4,4,rfl,by omega,rfl,HE,hbb⟩
     case measure=>simp [RowKit.intOf]
    | some a=>
     have HE:Hid (ckC c=(a,5)):=by
      show _=_
      rw [HCK.out]
      (first|rw [if_pos rfl]|rw [if_pos trivial])
      exact HX.out
     obtain ⟨a1,a2⟩:=a
     rw [show anP (some (a1,a2))=.tuple #[.agg #[.int .i64 a1,.int .i64 a2],.bool true] from rfl] at hc
     go_upto_region 9 with (first|(go_at_call 104;refine hc.mono ?_;rintro e w5 ⟨rfl,b5⟩)|fail)
     have hal6:Below w5.heap.size w5 (w5.alloc (.cells #[.int .i64 a1,.int .i64 a2] 23)):=(Below.refl _ _).alloc Nat.le.refl _
     have hP:Bn (w5.alloc (.cells #[.int .i64 a1,.int .i64 a2] 23)) w5.heap.size [.int .i64 a1,.int .i64 a2]:=Bn.new w5 [.int .i64 a1,.int .i64 a2] 23 _ rfl
     have hY6:=(hY.on b5).on hal6
     have h26:=(h2y.on b5).on hal6
     have hY5:=(hY.on b5).lt
     have hb6:Below w.heap.size w (w5.alloc (.cells #[.int .i64 a1,.int .i64 a2] 23)):=(hbyw.trans (b5.mono hbyw.size)).trans (hal6.mono (Nat.le_trans hbyw.size b5.size))
     generalize w5.alloc (.cells #[.int .i64 a1,.int .i64 a2] 23)=wz at *
     obtain ⟨Z,hZZ⟩:∃ Z,w5.heap.size=Z:=⟨_,rfl⟩
     rw [hZZ] at hP hY5 ⊢
     have n1:Z≠w.heap.size+1:=by omega
     have n2:Y≠w.heap.size+1:=by omega
     have p0:=(hP 0 _ rfl).1
     have p1:=(hP 1 _ rfl).1
     have q0:=(hY6 0 _ rfl).1
     obtain ⟨u0,f0⟩:=h26 0 _ rfl
     obtain ⟨u1,f1⟩:=h26 1 _ rfl
     go_region_held_law (fun w'=>w'.cell? ⟨Z,0,none⟩=some (.int .i64 a1)/\w'.cell? ⟨Z,1,none⟩=some (.int .i64 a2)/\w'.cell? ⟨Y,0,none⟩=some (.int .i64 5))
      ((refine ⟨?_,?_,?_⟩<;>(repeat (with_reducible first|exact p0|exact p1|exact q0|refine cell_dr ?_|refine cell_far4 (ne_pt n1) ?_|refine cell_far4 (ne_pt n2) ?_))<;>done))
      (fail)
     all_goals (
      have hz:=(h26.set (i:=0) (by simp) (.int .i64 a1)).set (i:=1) (by simp) (.int .i64 a2)
      have hbz:=putL_below [.int .i64 a1,.int .i64 a2] wz (w.heap.size+1) 0 hb6 (by omega)
      go_wp2
      exact bodyPost_ret (chk_res (w:=_) hz rfl rfl) rfl ⟨by rw [HE.out],hbz.drew⟩)
   ·obtain rfl:k=4:=by omega
    have hdr:(rdsC c fs).drop 4=(16,miR fs) :: (rdsC c fs).drop 5:=rfl
    have hal4:Below wr.heap.size wr (wr.alloc (.cells #[.int .i64 16,.func (.func 105) #[.pointer (some ⟨Lb,0,none⟩)] #[]] 168)):=(Below.refl _ _).alloc Nat.le.refl _
    have hY:Bn (wr.alloc (.cells #[.int .i64 16,.func (.func 105) #[.pointer (some ⟨Lb,0,none⟩)] #[]] 168)) wr.heap.size [.int .i64 16,.func (.func 105) #[.pointer (some ⟨Lb,0,none⟩)] #[]]:=Bn.new wr [.int .i64 16,.func (.func 105) #[.pointer (some ⟨Lb,0,none⟩)] #[]] 168 _ rfl
    have hc:=miR_any (HLr.out.on hal4) HF.out
    have h2y:=h2r.on hal4
    have e0:=(hRr 8 _ rfl).1
    have e1:=(hRr 9 _ rfl).1
    rw [hj,hdr] at HX
    obtain ⟨O,hO⟩:∃ O,miR fs=O:=⟨_,rfl⟩
    rw [hO] at hc HX
    have hbY:=hb.trans (hal4.mono hb.size)
    have hbyw:=hbr.trans (hal4.mono hbr.size)
    clear hdr hO hj hkj hj7
    go_upto_region 7 with fail
    generalize (wr.alloc (.cells #[.int .i64 16,.func (.func 105) #[.pointer (some ⟨Lb,0,none⟩)] #[]] 168))=wy at *
    obtain ⟨Y,hYY⟩:∃ Y,wr.heap.size=Y:=⟨_,rfl⟩
    rw [hYY] at hY ⊢
    have hYg:w.heap.size+1 < Y:=by rw [<- hYY];exact Nat.lt_trans hsz3 hRl
    have y1:=(hY 1 _ rfl).1
    clear hYY hal4
    cases O with
    | none=>
     have HE:Hid (ckL (rdsC c fs)=ckL ((rdsC c fs).drop 5)):=HX
     rw [show anP none=.tuple #[.agg #[.int .i64 0,.int .i64 0],.bool false] from rfl] at hc
     go_wp2_with (first|(go_at_call 105;refine hc.mono ?_;rintro e w5 ⟨rfl,b5⟩)|fail)
     have hbb:Below w3.heap.size w3 (w5.alloc (.cells #[.int .i64 0,.int .i64 0] 23)):=(hbY.trans (b5.mono hbY.size)).alloc (Nat.le_trans hbY.size b5.size) _
     go_roundw
     case rel=>exact ⟨5,5,rfl,by omega,rfl,HE,hbb⟩
     case measure=>simp [RowKit.intOf]
    | some a=>
     have HE:Hid (ckC c=(a,16)):=by
      show _=_
      rw [HCK.out]
      (first|rw [if_pos rfl]|rw [if_pos trivial])
      exact HX.out
     obtain ⟨a1,a2⟩:=a
     rw [show anP (some (a1,a2))=.tuple #[.agg #[.int .i64 a1,.int .i64 a2],.bool true] from rfl] at hc
     go_upto_region 9 with (first|(go_at_call 105;refine hc.mono ?_;rintro e w5 ⟨rfl,b5⟩)|fail)
     have hal6:Below w5.heap.size w5 (w5.alloc (.cells #[.int .i64 a1,.int .i64 a2] 23)):=(Below.refl _ _).alloc Nat.le.refl _
     have hP:Bn (w5.alloc (.cells #[.int .i64 a1,.int .i64 a2] 23)) w5.heap.size [.int .i64 a1,.int .i64 a2]:=Bn.new w5 [.int .i64 a1,.int .i64 a2] 23 _ rfl
     have hY6:=(hY.on b5).on hal6
     have h26:=(h2y.on b5).on hal6
     have hY5:=(hY.on b5).lt
     have hb6:Below w.heap.size w (w5.alloc (.cells #[.int .i64 a1,.int .i64 a2] 23)):=(hbyw.trans (b5.mono hbyw.size)).trans (hal6.mono (Nat.le_trans hbyw.size b5.size))
     generalize w5.alloc (.cells #[.int .i64 a1,.int .i64 a2] 23)=wz at *
     obtain ⟨Z,hZZ⟩:∃ Z,w5.heap.size=Z:=⟨_,rfl⟩
     rw [hZZ] at hP hY5 ⊢
     have n1:Z≠w.heap.size+1:=by omega
     have n2:Y≠w.heap.size+1:=by omega
     have p0:=(hP 0 _ rfl).1
     have p1:=(hP 1 _ rfl).1
     have q0:=(hY6 0 _ rfl).1
     obtain ⟨u0,f0⟩:=h26 0 _ rfl
     obtain ⟨u1,f1⟩:=h26 1 _ rfl
     go_region_held_law (fun w'=>w'.cell? ⟨Z,0,none⟩=some (.int .i64 a1)/\w'.cell? ⟨Z,1,none⟩=some (.int .i64 a2)/\w'.cell? ⟨Y,0,none⟩=some (.int .i64 16))
      ((refine ⟨?_,?_,?_⟩<;>(repeat (with_reducible first|exact p0|exact p1|exact q0|refine cell_dr ?_|refine cell_far4 (ne_pt n1) ?_|refine cell_far4 (ne_pt n2) ?_))<;>done))
      (fail)
     all_goals (
      have hz:=(h26.set (i:=0) (by simp) (.int .i64 a1)).set (i:=1) (by simp) (.int .i64 a2)
      have hbz:=putL_below [.int .i64 a1,.int .i64 a2] wz (w.heap.size+1) 0 hb6 (by omega)
      go_wp2
      exact bodyPost_ret (chk_res (w:=_) hz rfl rfl) rfl ⟨by rw [HE.out],hbz.drew⟩)
   ·obtain rfl:k=5:=by omega
    have hdr:(rdsC c fs).drop 5=(15,asR fs) :: (rdsC c fs).drop 6:=rfl
    have hal4:Below wr.heap.size wr (wr.alloc (.cells #[.int .i64 15,.func (.func 106) #[.pointer (some ⟨Lb,0,none⟩)] #[]] 168)):=(Below.refl _ _).alloc Nat.le.refl _
    have hY:Bn (wr.alloc (.cells #[.int .i64 15,.func (.func 106) #[.pointer (some ⟨Lb,0,none⟩)] #[]] 168)) wr.heap.size [.int .i64 15,.func (.func 106) #[.pointer (some ⟨Lb,0,none⟩)] #[]]:=Bn.new wr [.int .i64 15,.func (.func 106) #[.pointer (some ⟨Lb,0,none⟩)] #[]] 168 _ rfl
    have hc:=asR_any (HLr.out.on hal4) HF.out
    have h2y:=h2r.on hal4
    have e0:=(hRr 10 _ rfl).1
    have e1:=(hRr 11 _ rfl).1
    rw [hj,hdr] at HX
    obtain ⟨O,hO⟩:∃ O,asR fs=O:=⟨_,rfl⟩
    rw [hO] at hc HX
    have hbY:=hb.trans (hal4.mono hb.size)
    have hbyw:=hbr.trans (hal4.mono hbr.size)
    clear hdr hO hj hkj hj7
    go_upto_region 7 with fail
    generalize (wr.alloc (.cells #[.int .i64 15,.func (.func 106) #[.pointer (some ⟨Lb,0,none⟩)] #[]] 168))=wy at *
    obtain ⟨Y,hYY⟩:∃ Y,wr.heap.size=Y:=⟨_,rfl⟩
    rw [hYY] at hY ⊢
    have hYg:w.heap.size+1 < Y:=by rw [<- hYY];exact Nat.lt_trans hsz3 hRl
    have y1:=(hY 1 _ rfl).1
    clear hYY hal4
    cases O with
    | none=>
     have HE:Hid (ckL (rdsC c fs)=ckL ((rdsC c fs).drop 6)):=HX
     rw [show anP none=.tuple #[.agg #[.int .i64 0,.int .i64 0],.bool false] from rfl] at hc
     go_wp2_with (first|(go_at_call 106;refine hc.mono ?_;rintro e w5 ⟨rfl,b5⟩)|fail)
     have hbb:Below w3.heap.size w3 (w5.alloc (.cells #[.int .i64 0,.int .i64 0] 23)):=(hbY.trans (b5.mono hbY.size)).alloc (Nat.le_trans hbY.size b5.size) _
     go_roundw
     case rel=>exact ⟨6,6,rfl,by omega,rfl,HE,hbb⟩
     case measure=>simp [RowKit.intOf]
    | some a=>
     have HE:Hid (ckC c=(a,15)):=by
      show _=_
      rw [HCK.out]
      (first|rw [if_pos rfl]|rw [if_pos trivial])
      exact HX.out
     obtain ⟨a1,a2⟩:=a
     rw [show anP (some (a1,a2))=.tuple #[.agg #[.int .i64 a1,.int .i64 a2],.bool true] from rfl] at hc
     go_upto_region 9 with (first|(go_at_call 106;refine hc.mono ?_;rintro e w5 ⟨rfl,b5⟩)|fail)
     have hal6:Below w5.heap.size w5 (w5.alloc (.cells #[.int .i64 a1,.int .i64 a2] 23)):=(Below.refl _ _).alloc Nat.le.refl _
     have hP:Bn (w5.alloc (.cells #[.int .i64 a1,.int .i64 a2] 23)) w5.heap.size [.int .i64 a1,.int .i64 a2]:=Bn.new w5 [.int .i64 a1,.int .i64 a2] 23 _ rfl
     have hY6:=(hY.on b5).on hal6
     have h26:=(h2y.on b5).on hal6
     have hY5:=(hY.on b5).lt
     have hb6:Below w.heap.size w (w5.alloc (.cells #[.int .i64 a1,.int .i64 a2] 23)):=(hbyw.trans (b5.mono hbyw.size)).trans (hal6.mono (Nat.le_trans hbyw.size b5.size))
     generalize w5.alloc (.cells #[.int .i64 a1,.int .i64 a2] 23)=wz at *
     obtain ⟨Z,hZZ⟩:∃ Z,w5.heap.size=Z:=⟨_,rfl⟩
     rw [hZZ] at hP hY5 ⊢
     have n1:Z≠w.heap.size+1:=by omega
     have n2:Y≠w.heap.size+1:=by omega
     have p0:=(hP 0 _ rfl).1
     have p1:=(hP 1 _ rfl).1
     have q0:=(hY6 0 _ rfl).1
     obtain ⟨u0,f0⟩:=h26 0 _ rfl
     obtain ⟨u1,f1⟩:=h26 1 _ rfl
     go_region_held_law (fun w'=>w'.cell? ⟨Z,0,none⟩=some (.int .i64 a1)/\w'.cell? ⟨Z,1,none⟩=some (.int .i64 a2)/\w'.cell? ⟨Y,0,none⟩=some (.int .i64 15))
      ((refine ⟨?_,?_,?_⟩<;>(repeat (with_reducible first|exact p0|exact p1|exact q0|refine cell_dr ?_|refine cell_far4 (ne_pt n1) ?_|refine cell_far4 (ne_pt n2) ?_))<;>done))
      (fail)
     all_goals (
      have hz:=(h26.set (i:=0) (by simp) (.int .i64 a1)).set (i:=1) (by simp) (.int .i64 a2)
      have hbz:=putL_below [.int .i64 a1,.int .i64 a2] wz (w.heap.size+1) 0 hb6 (by omega)
      go_wp2
      exact bodyPost_ret (chk_res (w:=_) hz rfl rfl) rfl ⟨by rw [HE.out],hbz.drew⟩)
   ·obtain rfl:k=6:=by omega
    have hdr:(rdsC c fs).drop 6=(17,bwR fs) :: (rdsC c fs).drop 7:=rfl
    have hal4:Below wr.heap.size wr (wr.alloc (.cells #[.int .i64 17,.func (.func 107) #[.pointer (some ⟨Lb,0,none⟩)] #[]] 168)):=(Below.refl _ _).alloc Nat.le.refl _
    have hY:Bn (wr.alloc (.cells #[.int .i64 17,.func (.func 107) #[.pointer (some ⟨Lb,0,none⟩)] #[]] 168)) wr.heap.size [.int .i64 17,.func (.func 107) #[.pointer (some ⟨Lb,0,none⟩)] #[]]:=Bn.new wr [.int .i64 17,.func (.func 107) #[.pointer (some ⟨Lb,0,none⟩)] #[]] 168 _ rfl
    have hc:=bwR_any (HLr.out.on hal4) HF.out
    have h2y:=h2r.on hal4
    have e0:=(hRr 12 _ rfl).1
    have e1:=(hRr 13 _ rfl).1
    rw [hj,hdr] at HX
    obtain ⟨O,hO⟩:∃ O,bwR fs=O:=⟨_,rfl⟩
    rw [hO] at hc HX
    have hbY:=hb.trans (hal4.mono hb.size)
    have hbyw:=hbr.trans (hal4.mono hbr.size)
    clear hdr hO hj hkj hj7
    go_upto_region 7 with fail
    generalize (wr.alloc (.cells #[.int .i64 17,.func (.func 107) #[.pointer (some ⟨Lb,0,none⟩)] #[]] 168))=wy at *
    obtain ⟨Y,hYY⟩:∃ Y,wr.heap.size=Y:=⟨_,rfl⟩
    rw [hYY] at hY ⊢
    have hYg:w.heap.size+1 < Y:=by rw [<- hYY];exact Nat.lt_trans hsz3 hRl
    have y1:=(hY 1 _ rfl).1
    clear hYY hal4
    cases O with
    | none=>
     have HE:Hid (ckL (rdsC c fs)=ckL ((rdsC c fs).drop 7)):=HX
     rw [show anP none=.tuple #[.agg #[.int .i64 0,.int .i64 0],.bool false] from rfl] at hc
     go_wp2_with (first|(go_at_call 107;refine hc.mono ?_;rintro e w5 ⟨rfl,b5⟩)|fail)
     have hbb:Below w3.heap.size w3 (w5.alloc (.cells #[.int .i64 0,.int .i64 0] 23)):=(hbY.trans (b5.mono hbY.size)).alloc (Nat.le_trans hbY.size b5.size) _
     go_roundw
     case rel=>exact ⟨7,7,rfl,by omega,rfl,HE,hbb⟩
     case measure=>simp [RowKit.intOf]
    | some a=>
     have HE:Hid (ckC c=(a,17)):=by
      show _=_
      rw [HCK.out]
      (first|rw [if_pos rfl]|rw [if_pos trivial])
      exact HX.out
     obtain ⟨a1,a2⟩:=a
     rw [show anP (some (a1,a2))=.tuple #[.agg #[.int .i64 a1,.int .i64 a2],.bool true] from rfl] at hc
     go_upto_region 9 with (first|(go_at_call 107;refine hc.mono ?_;rintro e w5 ⟨rfl,b5⟩)|fail)
     have hal6:Below w5.heap.size w5 (w5.alloc (.cells #[.int .i64 a1,.int .i64 a2] 23)):=(Below.refl _ _).alloc Nat.le.refl _
     have hP:Bn (w5.alloc (.cells #[.int .i64 a1,.int .i64 a2] 23)) w5.heap.size [.int .i64 a1,.int .i64 a2]:=Bn.new w5 [.int .i64 a1,.int .i64 a2] 23 _ rfl
     have hY6:=(hY.on b5).on hal6
     have h26:=(h2y.on b5).on hal6
     have hY5:=(hY.on b5).lt
     have hb6:Below w.heap.size w (w5.alloc (.cells #[.int .i64 a1,.int .i64 a2] 23)):=(hbyw.trans (b5.mono hbyw.size)).trans (hal6.mono (Nat.le_trans hbyw.size b5.size))
     generalize w5.alloc (.cells #[.int .i64 a1,.int .i64 a2] 23)=wz at *
     obtain ⟨Z,hZZ⟩:∃ Z,w5.heap.size=Z:=⟨_,rfl⟩
     rw [hZZ] at hP hY5 ⊢
     have n1:Z≠w.heap.size+1:=by omega
     have n2:Y≠w.heap.size+1:=by omega
     have p0:=(hP 0 _ rfl).1
     have p1:=(hP 1 _ rfl).1
     have q0:=(hY6 0 _ rfl).1
     obtain ⟨u0,f0⟩:=h26 0 _ rfl
     obtain ⟨u1,f1⟩:=h26 1 _ rfl
     go_region_held_law (fun w'=>w'.cell? ⟨Z,0,none⟩=some (.int .i64 a1)/\w'.cell? ⟨Z,1,none⟩=some (.int .i64 a2)/\w'.cell? ⟨Y,0,none⟩=some (.int .i64 17))
      ((refine ⟨?_,?_,?_⟩<;>(repeat (with_reducible first|exact p0|exact p1|exact q0|refine cell_dr ?_|refine cell_far4 (ne_pt n1) ?_|refine cell_far4 (ne_pt n2) ?_))<;>done))
      (fail)
     all_goals (
      have hz:=(h26.set (i:=0) (by simp) (.int .i64 a1)).set (i:=1) (by simp) (.int .i64 a2)
      have hbz:=putL_below [.int .i64 a1,.int .i64 a2] wz (w.heap.size+1) 0 hb6 (by omega)
      go_wp2
      exact bodyPost_ret (chk_res (w:=_) hz rfl rfl) rfl ⟨by rw [HE.out],hbz.drew⟩)
   ·obtain rfl:k=7:=by omega
    have HE:Hid (ckC c=((0,0),0)):=by
     show _=_
     rw [HCK.out]
     (first|rw [if_pos rfl]|rw [if_pos trivial])
     rw [HX.out,hj]
     rfl
    obtain ⟨y0,f0⟩:=h2r 0 _ rfl
    obtain ⟨y1,f1⟩:=h2r 1 _ rfl
    have hz:=(h2r.set (i:=0) (by simp) (.int .i64 0)).set (i:=1) (by simp) (.int .i64 0)
    have hbz:=putL_below [.int .i64 0,.int .i64 0] wr (w.heap.size+1) 0 hbr (by omega)
    clear hkj hj7 hj HX hRr HLr hRl hRo h2w3 HLy3 hsz3 hb HF
    have HZ:=mkHid hz
    have HB:=mkHid hbz
    clear hz hbz
    go_wp2
    exact bodyPost_ret (chk_res HZ.out rfl rfl) rfl ⟨by rw [HE.out],HB.out⟩
