import Derived.Test.YtppefcdkgejfbaaGreatDoorXac09
import Derived.Test.YtppefcdkgejfbaaGreatDoorXac06
set_option maxRecDepth 100000
set_option maxHeartbeats 32000000
namespace Go.Proofs.YtppefcdkgejfbaaGreatDoor
open Go.RowKit Go.Lib
set_option linter.unusedSimpArgs false
set_option linter.unusedVariables false
attribute [local go_sem ↓] Go.wp_at_zero Go.wp_at_succ
def ExOk (x:Sx):Prop:=ClX x/\cntX x<=2000/\shrt 1000 x.1 x.2=true
def SetOk (s:List UInt8 × Sx):Prop:=s.1.length<=140737488351232/\ExOk s.2
theorem copX {x:Sx}(h:ExOk x) (w:World):Calls Tryz.prog 148 #[exX x] w fun e w'=>e=.returned (exX x)/\Below w.heap.size w w':=copied_any h.1 (by have:=h.2.1;unfold cntX at this;omega) h.2.2 w
theorem setQ_at {ok:Nat->Prop}{w:World}{l:List (List UInt8 × Sx)}{a:Option Addr}{n cap:Nat}(h:RdK ok w 2 (rSet ok w) l (.slice a n cap)) (j:Nat) (hj:j < l.length):∃ b off,a=some ⟨b,off,none⟩/\b < w.heap.size/\∀ i u,[sV l[j].1,exX l[j].2][i]?=some u->w.cell? ⟨b,off+j*2+i,none⟩=some u:=by
 obtain ⟨a1,cap1,he,h1,h2,h3⟩:=h
 simp only [Value.slice.injEq] at he
 obtain ⟨rfl,rfl,rfl⟩:=he
 obtain ⟨b,off,cs,ha,_,hb,hl,hr,hc⟩:=h3 j hj
 have hr:cs=[sV l[j].1,exX l[j].2]:=hr
 subst hr
 exact ⟨b,off,ha,hb,hc⟩
theorem cset_res {w4:World}{R:Nat}{a b:Value}{tmps:Array Value}(hR:Bn w4 R [a,b]) (ht:tmps.getD 2 undef=.pointer (some ⟨R,0,none⟩)):(results Tryz.f150 tmps).run Tryz.prog w4=.ok (.agg #[a,b]) w4:=by
 have ht':tmps[2]?.getD undef=.pointer (some ⟨R,0,none⟩):=by simpa using ht
 have c0:=(hR 0 _ rfl).1
 have c1:=(hR 1 _ rfl).1
 simp [results,Tryz.results150,go_sem,ht',c0,c1]
def CsC (s0:ByteArray) (v:Value):Prop:=∀ w,Calls Tryz.prog 150 #[.agg #[.string s0,v]] w fun e w'=>e=.returned (.agg #[.string s0,v])/\Below w.heap.size w w'
theorem cs_nil (s0:ByteArray) (hs:s0.size<=140737488351232) (h2:∀ w1,Calls Tryz.prog 148 #[.nilIface] w1 fun e w'=>e=.returned (.nilIface)/\Below w1.heap.size w1 w'):CsC s0 (.nilIface):=by
 intro w
 have h1:=fun w1=>pClone_any s0 w1 hs
 have hal:Below w.heap.size w ((w.alloc (.cells #[.string s0,.nilIface] 120)).alloc (.cells #[.string ⟨#[]⟩,.nilIface] 120)):=((Below.refl w.heap.size w).alloc Nat.le.refl _).alloc (by simp) _
 have hX:Bn ((w.alloc (.cells #[.string s0,.nilIface] 120)).alloc (.cells #[.string ⟨#[]⟩,.nilIface] 120)) w.heap.size [.string s0,.nilIface]:=(Bn.new w [.string s0,.nilIface] 120 _ rfl).on ((Below.refl _ _).alloc Nat.le.refl _)
 have hR:Bn ((w.alloc (.cells #[.string s0,.nilIface] 120)).alloc (.cells #[.string ⟨#[]⟩,.nilIface] 120)) (w.heap.size+1) [.string ⟨#[]⟩,.nilIface]:=Bn.new (w.alloc (.cells #[.string s0,.nilIface] 120)) [.string ⟨#[]⟩,.nilIface] 120 _ (by simp)
 go_enter Tryz.func150,Tryz.ntmps150
 go_upto_region 1 with fail
 generalize (w.alloc (.cells #[.string s0,.nilIface] 120)).alloc (.cells #[.string ⟨#[]⟩,.nilIface] 120)=wx at *
 have hB:Below wx.heap.size wx wx:=Below.refl _ _
 have c0:=(hX 0 _ rfl).1
 have c1:=(hX 1 _ rfl).1
 have hlt:=hX.lt
 obtain ⟨S,hS⟩:∃ S,w.heap.size=S:=⟨_,rfl⟩
 rw [hS] at c0 c1 hlt hR ⊢
 go_region_held_law (fun w'=>w'.cell? ⟨S,0,none⟩=some (.string s0)/\w'.cell? ⟨S,1,none⟩=some (.nilIface))
  (first|exact ⟨(hB.cell (p:=⟨S,0,none⟩) hlt).trans c0,(hB.cell (p:=⟨S,1,none⟩) hlt).trans c1⟩|exact ⟨cell_far4 (by omega) (cell_far4 (by omega) ((hB.cell (p:=⟨S,0,none⟩) hlt).trans c0)),cell_far4 (by omega) (cell_far4 (by omega) ((hB.cell (p:=⟨S,1,none⟩) hlt).trans c1))⟩)
  (first
   | (go_at_call 13;(with_reducible refine (h1 _).mono ?_);rintro e w1 ⟨rfl,b1⟩;(first|have hB:=Below.nxd hB b1|have hB:=Below.nx hB b1);have hR1:=hR.on hB;obtain ⟨r0,f0⟩:=hR1 0 _ rfl;obtain ⟨r1,f1⟩:=hR1 1 _ rfl)
   | (go_at_call 148;(with_reducible refine (h2 _).mono ?_);rintro e w1 ⟨rfl,b1⟩;(first|have hB:=Below.nxd hB b1|have hB:=Below.nx hB b1);have hR1:=hR.on hB;obtain ⟨r0,f0⟩:=hR1 0 _ rfl;obtain ⟨r1,f1⟩:=hR1 1 _ rfl)
   | fail)
 all_goals (
  have hR2:=(hR1.set (i:=0) (by simp) (.string s0)).set (i:=1) (by simp) (.nilIface)
  have hb2:=((hal.trans (hB.mono (by have:=hal.size;rw [hS] at this;omega))).setCell (p:=⟨S+1,0,none⟩) (by show w.heap.size<=S+1;omega) (.string s0)).setCell (p:=⟨S+1,1,none⟩) (by show w.heap.size<=S+1;omega) (.nilIface)
  go_wp2
  exact bodyPost_ret (cset_res hR2 rfl) rfl ⟨rfl,hb2⟩)
theorem cs_ifc (s0:ByteArray) (u:TypeId) (y:Value) (hs:s0.size<=140737488351232) (h2:∀ w1,Calls Tryz.prog 148 #[.iface u y] w1 fun e w'=>e=.returned (.iface u y)/\Below w1.heap.size w1 w'):CsC s0 (.iface u y):=by
 intro w
 have h1:=fun w1=>pClone_any s0 w1 hs
 have hal:Below w.heap.size w ((w.alloc (.cells #[.string s0,.iface u y] 120)).alloc (.cells #[.string ⟨#[]⟩,.nilIface] 120)):=((Below.refl w.heap.size w).alloc Nat.le.refl _).alloc (by simp) _
 have hX:Bn ((w.alloc (.cells #[.string s0,.iface u y] 120)).alloc (.cells #[.string ⟨#[]⟩,.nilIface] 120)) w.heap.size [.string s0,.iface u y]:=(Bn.new w [.string s0,.iface u y] 120 _ rfl).on ((Below.refl _ _).alloc Nat.le.refl _)
 have hR:Bn ((w.alloc (.cells #[.string s0,.iface u y] 120)).alloc (.cells #[.string ⟨#[]⟩,.nilIface] 120)) (w.heap.size+1) [.string ⟨#[]⟩,.nilIface]:=Bn.new (w.alloc (.cells #[.string s0,.iface u y] 120)) [.string ⟨#[]⟩,.nilIface] 120 _ (by simp)
 go_enter Tryz.func150,Tryz.ntmps150
 go_upto_region 1 with fail
 generalize (w.alloc (.cells #[.string s0,.iface u y] 120)).alloc (.cells #[.string ⟨#[]⟩,.nilIface] 120)=wx at *
 have hB:Below wx.heap.size wx wx:=Below.refl _ _
 have c0:=(hX 0 _ rfl).1
 have c1:=(hX 1 _ rfl).1
 have hlt:=hX.lt
 obtain ⟨S,hS⟩:∃ S,w.heap.size=S:=⟨_,rfl⟩
 rw [hS] at c0 c1 hlt hR ⊢
 go_region_held_law (fun w'=>w'.cell? ⟨S,0,none⟩=some (.string s0)/\w'.cell? ⟨S,1,none⟩=some (.iface u y))
  (first|exact ⟨(hB.cell (p:=⟨S,0,none⟩) hlt).trans c0,(hB.cell (p:=⟨S,1,none⟩) hlt).trans c1⟩|exact ⟨cell_far4 (by omega) (cell_far4 (by omega) ((hB.cell (p:=⟨S,0,none⟩) hlt).trans c0)),cell_far4 (by omega) (cell_far4 (by omega) ((hB.cell (p:=⟨S,1,none⟩) hlt).trans c1))⟩)
  (first
   | (go_at_call 13;(with_reducible refine (h1 _).mono ?_);rintro e w1 ⟨rfl,b1⟩;(first|have hB:=Below.nxd hB b1|have hB:=Below.nx hB b1);have hR1:=hR.on hB;obtain ⟨r0,f0⟩:=hR1 0 _ rfl;obtain ⟨r1,f1⟩:=hR1 1 _ rfl)
   | (go_at_call 148;(with_reducible refine (h2 _).mono ?_);rintro e w1 ⟨rfl,b1⟩;(first|have hB:=Below.nxd hB b1|have hB:=Below.nx hB b1);have hR1:=hR.on hB;obtain ⟨r0,f0⟩:=hR1 0 _ rfl;obtain ⟨r1,f1⟩:=hR1 1 _ rfl)
   | fail)
 all_goals (
  have hR2:=(hR1.set (i:=0) (by simp) (.string s0)).set (i:=1) (by simp) (.iface u y)
  have hb2:=((hal.trans (hB.mono (by have:=hal.size;rw [hS] at this;omega))).setCell (p:=⟨S+1,0,none⟩) (by show w.heap.size<=S+1;omega) (.string s0)).setCell (p:=⟨S+1,1,none⟩) (by show w.heap.size<=S+1;omega) (.iface u y)
  go_wp2
  exact bodyPost_ret (cset_res hR2 rfl) rfl ⟨rfl,hb2⟩)
theorem copiedSet_any {s:List UInt8 × Sx}(h:SetOk s) (w:World):Calls Tryz.prog 150 #[.agg #[sV s.1,exX s.2]] w fun e w'=>e=.returned (.agg #[sV s.1,exX s.2])/\Below w.heap.size w w':=by
 have hx:=copX h.2
 rcases exX_form s.2 with hq|⟨u,y,hq⟩
 ·rw [hq] at hx ⊢
  exact cs_nil _ (by show s.1.toArray.size<=_;simpa using h.1) hx w
 ·rw [hq] at hx ⊢
  exact cs_ifc _ _ _ (by show s.1.toArray.size<=_;simpa using h.1) hx w
theorem Tryz.infoESet:(Tryz.prog.info? 120).map (fun i=>(i.zero,i.size,i.bytes))=some (some (.agg #[.string ⟨#[]⟩,.nilIface]),2,32):=by kernel_rfl
theorem mkHid {p:Prop}(h:p):Hid p:=h
theorem eachSet_any {ok:Nat->Prop}{w:World}{l:List (List UInt8 × Sx)}{v:Value}(h:RdK ok w 2 (rSet ok w) l v) (hl:l.length<=100000) (hok:∀ s∈l,SetOk s) :
  Calls Tryz.prog 149 #[v,.func (.func 150) #[] #[]] w fun e w'=>∃ u,e=.returned u/\RdK (Nw w.heap.size w') w' 2 (rSet (Nw w.heap.size w') w') (l) u/\Below w.heap.size w w':=by
 obtain ⟨ie,hie,hie0,hie1,hie2⟩:=info_parts Tryz.infoESet
 obtain ⟨a,cap,rfl,hlc,hcm⟩:=h.form
 unfold maxLen at hcm
 have HC:=mkHid h
 have HK:=mkHid hok
 obtain ⟨n,hn⟩:∃ n,l.length=n:=⟨_,rfl⟩
 rw [hn] at hlc hl ⊢
 have HN:Hid (l.length=n):=hn
 clear h hok hn
 have hmk:=run_make (P:=Tryz.prog) w 86 120 ie _ Tryz.underlying86 hie hie0 .i64 .i64 (n:Int) (n:Int) (by omega) (by omega) (by rw [hie2];omega) (by omega)
 rw [Int.toNat_natCast,hie1] at hmk
 have hG0:RowG (w.alloc (.cells (madeCells (.agg #[.string ⟨#[]⟩,.nilIface]:Value).cells (n*2)) 120)) w.heap.size 2 n rSet ([]:List (List UInt8 × Sx)):=RowG.made w _ 2 n _ _
 have hb0:Below w.heap.size w (w.alloc (.cells (madeCells (.agg #[.string ⟨#[]⟩,.nilIface]:Value).cells (n*2)) 120)):=(Below.refl _ _).alloc Nat.le.refl _
 have hs0:(w.alloc (.cells (madeCells (.agg #[.string ⟨#[]⟩,.nilIface]:Value).cells (n*2)) 120)).heap.size=w.heap.size+1:=by simp
 generalize w.alloc (.cells (madeCells (.agg #[.string ⟨#[]⟩,.nilIface]:Value).cells (n*2)) 120)=w0 at *
 go_enter Tryz.func149,Tryz.ntmps149
 go_wp2
 go_loopw [13] (fun ix wr=>∃ (i:Nat),i<=n/\ix=.int .i64 (i:Int)/\RowG wr w.heap.size 2 n rSet ((l).take i)/\Below w.heap.size w wr/\w.heap.size < wr.heap.size) (fun ix _=>n - (RowKit.intOf ix).toNat)
 case atStart=>exact ⟨0,Nat.zero_le _,rfl,hG0,hb0,by omega⟩
 case round=>
  obtain ⟨i,hi,rfl,hRow,hb,hGs⟩:=hrel
  clear hG0 hb0 hs0 hmk
  by_cases hlt:i < n
  ·have hil:i < l.length:=by rw [HN.out];exact hlt
   obtain ⟨b,off,rfl,hbl,hc⟩:=setQ_at HC.out i hil
   have hks:=HK.out _ (List.getElem_mem hil)
   have hcall0:=copiedSet_any hks
   obtain ⟨q,hq⟩:∃ q,l[i]=q:=⟨_,rfl⟩
   rw [hq] at hc hcall0
   have HQ:Hid (l[i]=q):=hq
   clear hq hks
   obtain ⟨s0,hs0⟩:∃ s0,sV q.1=.string s0:=⟨_,rfl⟩
   have hform:=exX_form q.2
   obtain ⟨tv,htv⟩:∃ tv,exX q.2=tv:=⟨_,rfl⟩
   rw [hs0,htv] at hc hcall0
   rw [htv] at hform
   have HS:Hid (sV q.1=.string s0):=hs0
   have HTV:Hid (exX q.2=tv):=htv
   clear hs0 htv
   obtain ⟨acc,hac⟩:∃ acc,(l).take i=acc:=⟨_,rfl⟩
   have hla:acc.length=i:=by rw [<- hac];simp [HN.out];omega
   rw [hac] at hRow
   have HAC:Hid ((l).take i=acc):=hac
   clear hac
   have i1:(i:Int) < (n:Int):=by omega
   have i2:(0:Int)<=(i:Int):=by omega
   have C0:=(hb.cell (p:=⟨b,off+i*2+0,none⟩) hbl).trans (hc 0 _ rfl)
   have C1:=(hb.cell (p:=⟨b,off+i*2+1,none⟩) hbl).trans (hc 1 _ rfl)
   rw [Nat.add_zero] at C0
   clear hc
   rcases hform with rfl|⟨tu,ty,rfl⟩
   ·have hal:=(Below.refl wr.heap.size wr).alloc Nat.le.refl (.cells #[.string s0,.nilIface] 120)
    have hX:=Bn.new wr [.string s0,.nilIface] 120 _ rfl
    have hRx:=hRow.on kp_set hGs hal
    have hbx:=hb.trans (hal.mono hb.size)
    have hGx:=Nat.lt_of_lt_of_le hGs hal.size
    have hcall:∀ w1,Below w.heap.size w w1->Calls Tryz.prog 150 #[.agg #[.string s0,.nilIface]] w1 fun e w'=>e=.returned (.agg #[.string s0,.nilIface])/\Below w1.heap.size w1 w':=fun w1 _=>hcall0 w1
    go_upto_region 5 with fail
    clear C0 C1 hal
    generalize wr.alloc (.cells #[.string s0,.nilIface] 120)=wx at *
    obtain ⟨X,hXX⟩:∃ X,wr.heap.size=X:=⟨_,rfl⟩
    rw [hXX] at hX ⊢
    have HXX:Hid (wr.heap.size=X):=hXX
    clear hXX
    have x0:=(hX 0 _ rfl).1
    have x1:=(hX 1 _ rfl).1
    go_wp2_with (first
     | (go_at_call 150;refine (hcall _ hbx).mono ?_;rintro e w1 ⟨rfl,b1⟩;have hp:rSet (Nw (w.heap.size+1) w1) w1 q [.string s0,.nilIface]:=(by show _=_;rw [HS.out,HTV.out]);have hR1:=hRx.on kp_set hGx b1;obtain ⟨⟨r0,q0⟩,z0⟩:=hR1.1 (i*2+0) (mul_in hlt (by omega));obtain ⟨⟨r1,q1⟩,z1⟩:=hR1.1 (i*2+1) (mul_in hlt (by omega));rw [Nat.add_zero] at q0 z0)
     | fail)
    have hP:=hR1.put kp_set (x:=q) (cs:=[.string s0,.nilIface]) (by rw [hla];exact hlt) rfl hp
    rw [hla] at hP
    have hb2:=putL_below [.string s0,.nilIface] w1 w.heap.size (i*2) (hbx.trans (b1.mono (Nat.le_of_lt hGx))) Nat.le.refl
    have hs2:w.heap.size < (putL w1 w.heap.size (i*2) [.string s0,.nilIface]).heap.size:=by rw [putL_size];exact Nat.lt_of_lt_of_le hGx b1.size
    have hac2:(l).take (i+1)=acc++[q]:=by
     rw [List.take_succ_eq_append_getElem (by simp [HN.out];omega),HAC.out]
     simp [HQ.out]
    clear x0 r0 q0 z0 x1 r1 q1 z1 hR1 hRx hp
    go_wp2
    go_roundw
    case rel=>exact ⟨i+1,hlt,by go_num,by rw [hac2];exact hP,hb2,hs2⟩
    case measure=>simp [RowKit.intOf];omega
   ·have hal:=(Below.refl wr.heap.size wr).alloc Nat.le.refl (.cells #[.string s0,.iface tu ty] 120)
    have hX:=Bn.new wr [.string s0,.iface tu ty] 120 _ rfl
    have hRx:=hRow.on kp_set hGs hal
    have hbx:=hb.trans (hal.mono hb.size)
    have hGx:=Nat.lt_of_lt_of_le hGs hal.size
    have hcall:∀ w1,Below w.heap.size w w1->Calls Tryz.prog 150 #[.agg #[.string s0,.iface tu ty]] w1 fun e w'=>e=.returned (.agg #[.string s0,.iface tu ty])/\Below w1.heap.size w1 w':=fun w1 _=>hcall0 w1
    go_upto_region 5 with fail
    clear C0 C1 hal
    generalize wr.alloc (.cells #[.string s0,.iface tu ty] 120)=wx at *
    obtain ⟨X,hXX⟩:∃ X,wr.heap.size=X:=⟨_,rfl⟩
    rw [hXX] at hX ⊢
    have HXX:Hid (wr.heap.size=X):=hXX
    clear hXX
    have x0:=(hX 0 _ rfl).1
    have x1:=(hX 1 _ rfl).1
    go_wp2_with (first
     | (go_at_call 150;refine (hcall _ hbx).mono ?_;rintro e w1 ⟨rfl,b1⟩;have hp:rSet (Nw (w.heap.size+1) w1) w1 q [.string s0,.iface tu ty]:=(by show _=_;rw [HS.out,HTV.out]);have hR1:=hRx.on kp_set hGx b1;obtain ⟨⟨r0,q0⟩,z0⟩:=hR1.1 (i*2+0) (mul_in hlt (by omega));obtain ⟨⟨r1,q1⟩,z1⟩:=hR1.1 (i*2+1) (mul_in hlt (by omega));rw [Nat.add_zero] at q0 z0)
     | fail)
    have hP:=hR1.put kp_set (x:=q) (cs:=[.string s0,.iface tu ty]) (by rw [hla];exact hlt) rfl hp
    rw [hla] at hP
    have hb2:=putL_below [.string s0,.iface tu ty] w1 w.heap.size (i*2) (hbx.trans (b1.mono (Nat.le_of_lt hGx))) Nat.le.refl
    have hs2:w.heap.size < (putL w1 w.heap.size (i*2) [.string s0,.iface tu ty]).heap.size:=by rw [putL_size];exact Nat.lt_of_lt_of_le hGx b1.size
    have hac2:(l).take (i+1)=acc++[q]:=by
     rw [List.take_succ_eq_append_getElem (by simp [HN.out];omega),HAC.out]
     simp [HQ.out]
    clear x0 r0 q0 z0 x1 r1 q1 z1 hR1 hRx hp
    go_wp2
    go_roundw
    case rel=>exact ⟨i+1,hlt,by go_num,by rw [hac2];exact hP,hb2,hs2⟩
    case measure=>simp [RowKit.intOf];omega
  ·have i1:¬ (i:Int) < (n:Int):=by omega
   have hin:i=n:=by omega
   have hfull:(l).take i=l:=List.take_of_length_le (by simp [HN.out];omega)
   rw [hfull] at hRow
   have hrd:=hRow.rd kp_set hGs (by simp [HN.out]) (by unfold maxLen;omega)
   go_wp2
   go_ret
   exact ⟨_,rfl,hrd,hb⟩
def totS:(d:Nat)->List (St d)->Nat
 | 0,_=>0
 | d+1,l=>(l.map (fun t=>1+totS d t.2)).sum
def SmX (x:Sx):Prop:=0<=sml x.1 x.2 0 200
def OnS (o:OnC):Prop:=o.1.length<=20050/\o.2.2.1.length<=20050/\SmX o.2.1.2/\o.2.2.2.1.length<=400/\∀ s∈o.2.2.2.1,s.1.length<=1000/\SmX s.2
def HdS (h:HdC):Prop:=h.1.1.length<=20050/\h.2.2.1.1.length<=20050/\h.2.2.1.2.length<=20050/\h.2.2.2.2.length<=400/\∀ o∈h.2.2.2.2,OnS o
def SmS:(d:Nat)->St d->Prop
 | 0,t=>Empty.elim t
 | d+1,t=>HdS t.1/\∀ x∈t.2,SmS d x
theorem tot_snoc {d:Nat}(l:List (St (d+1))) (t:St (d+1)):totS (d+1) (l++[t])=totS (d+1) l+(1+totS d t.2):=by
 show ((l++[t]).map (fun t:St (d+1)=>1+totS d t.2)).sum=_
 rw [List.map_append,List.sum_append];simp;rfl
theorem onD_at {ok:Nat->Prop}{w:World}{l:List OnC}{a:Option Addr}{n cap:Nat}(h:RdK ok w 10 (rOnD ok w) l (.slice a n cap)) (j:Nat) (hj:j < l.length):∃ b off c0 c1 c2 c3 s1 s3,a=some ⟨b,off,none⟩/\ok b/\b < w.heap.size/\RdX ok w l[j].2.1.2 (.agg #[c0,c1,c2,c3])/\RdK ok w 5 (rSetD ok w) l[j].2.2.2.1 (.slice s1 l[j].2.2.2.1.length s3)/\∀ i u,[sD l[j].1,.bool l[j].2.1.1,c0,c1,c2,c3,sD l[j].2.2.1,.slice s1 l[j].2.2.2.1.length s3,.int .i64 l[j].2.2.2.2.1,.int .i64 l[j].2.2.2.2.2][i]?=some u->w.cell? ⟨b,off+j*10+i,none⟩=some u:=by
 obtain ⟨a1,cap1,he,h1,h2,h3⟩:=h
 simp only [Value.slice.injEq] at he
 obtain ⟨rfl,rfl,rfl⟩:=he
 obtain ⟨b,off,cs,ha,ho,hb,hl,⟨c0,c1,c2,c3,sl,rfl,hx,hs⟩,hc⟩:=h3 j hj
 obtain ⟨s1,s3,rfl,_⟩:=hs.form
 exact ⟨b,off,c0,c1,c2,c3,s1,s3,ha,ho,hb,hx,hs,hc⟩
theorem setD_at {ok:Nat->Prop}{w:World}{l:List (List UInt8 × Sx)}{a:Option Addr}{n cap:Nat}(h:RdK ok w 5 (rSetD ok w) l (.slice a n cap)) (j:Nat) (hj:j < l.length):∃ b off c0 c1 c2 c3,a=some ⟨b,off,none⟩/\ok b/\b < w.heap.size/\RdX ok w l[j].2 (.agg #[c0,c1,c2,c3])/\∀ i u,[sD l[j].1,c0,c1,c2,c3][i]?=some u->w.cell? ⟨b,off+j*5+i,none⟩=some u:=by
 obtain ⟨a1,cap1,he,h1,h2,h3⟩:=h
 simp only [Value.slice.injEq] at he
 obtain ⟨rfl,rfl,rfl⟩:=he
 obtain ⟨b,off,cs,ha,ho,hb,hl,⟨c0,c1,c2,c3,rfl,hx⟩,hc⟩:=h3 j hj
 exact ⟨b,off,c0,c1,c2,c3,ha,ho,hb,hx,hc⟩
theorem stD_at {ok:Nat->Prop}{w:World}{d:Nat}{l:List (St (d+1))}{a:Option Addr}{n cap:Nat}(h:RdK ok w 11 (rStD (d+1) ok w) l (.slice a n cap)) (j:Nat) (hj:j < l.length):∃ b off p1 p3 p4 p6,a=some ⟨b,off,none⟩/\ok b/\b < w.heap.size/\RdK ok w 10 (rOnD ok w) l[j].1.2.2.2.2 (.slice p1 l[j].1.2.2.2.2.length p3)/\RdK ok w 11 (rStD d ok w) l[j].2 (.slice p4 l[j].2.length p6)/\∀ i u,(hdD l[j].1 (.slice p1 l[j].1.2.2.2.2.length p3) (.slice p4 l[j].2.length p6))[i]?=some u->w.cell? ⟨b,off+j*11+i,none⟩=some u:=by
 obtain ⟨a1,cap1,he,h1,h2,h3⟩:=h
 simp only [Value.slice.injEq] at he
 obtain ⟨rfl,rfl,rfl⟩:=he
 obtain ⟨b,off,cs,ha,ho,hb,hl,⟨so,si,rfl,hs,hi⟩,hc⟩:=h3 j hj
 obtain ⟨s1,s3,rfl,_⟩:=hs.form
 obtain ⟨s4,s6,rfl,_⟩:=hi.form
 exact ⟨b,off,s1,s3,s4,s6,ha,ho,hb,hs,hi,hc⟩
theorem hdD_let (h:HdC):∃ (sn:ByteArray) (sl sc:Int) (sb se:Bool) (sd su:ByteArray) (sw sr:Int),hdD h=(fun so si=>[.string sn,.int .i64 sl,.int .i64 sc,.bool sb,.bool se,.string sd,.string su,.int .i64 sw,.int .i64 sr,so,si])/\sn.size=h.1.1.length/\sd.size=h.2.2.1.1.length/\su.size=h.2.2.1.2.length:=
 ⟨⟨h.1.1.toArray⟩,h.1.2.1,h.1.2.2,h.2.1.1,h.2.1.2,⟨h.2.2.1.1.toArray⟩,⟨h.2.2.1.2.toArray⟩,h.2.2.2.1.1,h.2.2.2.1.2,rfl,(by show h.1.1.toArray.size=_;simp),(by show h.2.2.1.1.toArray.size=_;simp),(by show h.2.2.1.2.toArray.size=_;simp)⟩
theorem rdX_let {ok:Nat->Prop}{w:World}{x:Sx}{c0 c1 c2 c3:Value}(h:RdX ok w x (.agg #[c0,c1,c2,c3])):∃ (x1 x2:Int) (x3:ByteArray) (x4:Option Addr) (x5 x6:Nat),c0=.int .i64 x1/\c1=.int .i64 x2/\c2=.string x3/\c3=.slice x4 x5 x6:=by
 obtain ⟨d,t⟩:=x
 cases d with
 | zero=>exact Empty.elim t
 | succ d=>
  obtain ⟨sl,e,hp⟩:=h
  obtain ⟨a,cap,rfl,_⟩:=hp
  simp only [Value.agg.injEq,Array.mk.injEq,List.cons.injEq,and_true] at e
  exact ⟨_,_,_,_,_,_,e.1,e.2.1,e.2.2.1,e.2.2.2⟩
def SmC (d:Nat):Prop:=∀ (ok:Nat->Prop) (w:World) (l:List (St d)) (v:Value) (dep:Nat) (left:Int),RdK ok w 11 (rStD d ok w) l v->l.length<=140737488351232->(∀ t∈l,WfS d t)->dep<=16->0<=left->left<=400->
 Calls Tryz.prog 11 #[v,.int .i64 (dep:Int),.int .i64 left] w fun e w'=>∃ r:Int,e=.returned (.int .i64 r)/\(r = -1∨(0<=r/\r+(totS d l:Nat)<=left/\∀ t∈l,SmS d t))/\Below w.heap.size w w'
theorem sm_step (d:Nat) (IH:SmC d):SmC (d+1):=by
 intro ok w l v dep left h hln hwf hdep hl0 hl4
 obtain ⟨a,cap,rfl,hlc,hcm⟩:=h.form
 unfold maxLen at hcm
 have HC:=mkHid h
 have HWF:=mkHid hwf
 obtain ⟨n,hn⟩:∃ n,l.length=n:=⟨_,rfl⟩
 rw [hn] at hlc hln ⊢
 have HN:Hid (l.length=n):=hn
 clear h hwf hn
 by_cases hd15:15 < dep
 ·have i0:(15:Int) < (dep:Int):=by omega
  go_enter Tryz.func11,Tryz.ntmps11
  go_wp2
  go_ret
  exact ⟨-1,rfl,.inl rfl,Below.refl _ _⟩
 have i0:¬ (15:Int) < (dep:Int):=by omega
 go_enter Tryz.func11,Tryz.ntmps11
 go_wp2
 go_loopw [2,15] (fun t2 ix wr=>∃ (j:Nat) (lf:Int),j<=n/\ix=.int .i64 (j:Int)/\t2=.int .i64 lf/\0<=lf/\lf<=400/\Hid (lf+(totS (d+1) (l.take j):Nat)<=left/\∀ t∈l.take j,SmS (d+1) t)/\Below w.heap.size w wr) (fun _ ix _=>n - (RowKit.intOf ix).toNat)
 case atStart=>exact ⟨0,left,Nat.zero_le _,rfl,rfl,hl0,hl4,⟨by simp [totS],fun t ht=>by simp at ht⟩,Below.refl _ _⟩
 case round=>
  obtain ⟨j,lf,hj,rfl,rfl,hf0,hf4,HI,hb⟩:=hrel
  by_cases hlt:j < n
  ·have hjl:j < l.length:=by rw [HN.out];exact hlt
   obtain ⟨b,off,p1,p3,p4,p6,rfl,_,hbl,hOn,hIn,hc⟩:=stD_at HC.out j hjl
   have hwt:=HWF.out _ (List.getElem_mem hjl)
   obtain ⟨t,ht⟩:∃ t,l[j]=t:=⟨_,rfl⟩
   rw [ht] at hOn hIn hc hwt
   have HT:=mkHid ht
   obtain ⟨_,_,⟨wn,wd,wu,wo,wO⟩,wi,wI⟩:=hwt
   obtain ⟨sn,sl,sc,sb,se,sd,su,sw,sr,hsv,hz1,hz2,hz3⟩:=hdD_let t.1
   rw [hsv] at hc
   obtain ⟨m,hm⟩:∃ m,t.1.2.2.2.2.length=m:=⟨_,rfl⟩
   obtain ⟨i,hi⟩:∃ m,t.2.length=m:=⟨_,rfl⟩
   rw [hm] at hOn hc wo
   rw [hi] at hIn hc wi
   rw [<- hz1] at wn
   rw [<- hz2] at wd
   rw [<- hz3] at wu
   have C0:=(hb.cell (p:=⟨b,off+j*11+0,none⟩) hbl).trans (hc 0 _ rfl)
   have C5:=(hb.cell (p:=⟨b,off+j*11+5,none⟩) hbl).trans (hc 5 _ rfl)
   have C6:=(hb.cell (p:=⟨b,off+j*11+6,none⟩) hbl).trans (hc 6 _ rfl)
   have C9:=(hb.cell (p:=⟨b,off+j*11+9,none⟩) hbl).trans (hc 9 _ rfl)
   have C10:=(hb.cell (p:=⟨b,off+j*11+10,none⟩) hbl).trans (hc 10 _ rfl)
   rw [Nat.add_zero] at C0
   have HZ:Hid (sn.size=t.1.1.1.length/\sd.size=t.1.2.2.1.1.length/\su.size=t.1.2.2.1.2.length):=⟨hz1,hz2,hz3⟩
   have HM:Hid (t.1.2.2.2.2.length=m):=hm
   have HOn:=mkHid hOn
   have HWO:=mkHid wO
   have hcall:=fun (x:Int) (hx0:0<=x) (hx4:x<=400) w1 (b1:Below w.heap.size w w1)=>IH ok w1 t.2 (.slice p4 i p6) (dep+1) x (hIn.stay (kp_stD d) (fun k hk hl=>⟨hk,b1.block k hl⟩)) (by rw [hi];exact wi) wI (by omega) hx0 hx4
   simp only [Int.natCast_add] at hcall
   obtain ⟨_,_,heo,hco,hmo⟩:=hOn.form
   simp only [Value.slice.injEq] at heo
   obtain ⟨rfl,hx0,rfl⟩:=heo
   clear hx0
   rw [hm] at hco
   unfold maxLen at hmo
   have HC9:Hid (w.cell? ⟨b,off+j*11+9,none⟩=some (.slice p1 m p3)):=hc 9 _ rfl
   have HC10:Hid (w.cell? ⟨b,off+j*11+10,none⟩=some (.slice p4 i p6)):=hc 10 _ rfl
   clear hz1 hz2 hz3 hm hOn hIn hi hsv hc ht wO wI
   have i1:(j:Int) < (n:Int):=by omega
   have i2:(0:Int)<=(j:Int):=by omega
   go_upto_region 6 with fail
   go_quiet (fail)
   have hbn:Below w.heap.size w (wr.drewN nq):=hb.trans ⟨rfl,rfl,rfl,Nat.le_refl _,fun _ _=>rfl⟩
   have C9:(wr.drewN nq).cell? ⟨b,off+j*11+9,none⟩=some (.slice p1 m p3):=C9
   have C10:(wr.drewN nq).cell? ⟨b,off+j*11+10,none⟩=some (.slice p4 i p6):=C10
   clear C0 C5 C6 hb
   generalize wr.drewN nq=wq at *
   generalize hl2:lf - 1 - (m:Int) - (sn.size:Int) / 50 - (sd.size:Int) / 50 - (su.size:Int) / 50=lf2
   by_cases hneg:lf2 < 0
   ·clear hl2
    go_wp2
    go_ret
    exact ⟨-1,rfl,.inl rfl,hbn⟩
   have hl24:lf2<=400:=by omega
   have HL2:=mkHid hl2
   have HBS:Hid (sn.size<=20050/\sd.size<=20050/\su.size<=20050/\m<=400):=by
    show _/\_
    omega
   have hlf2:lf2+1<=lf:=by omega
   have hm4:m<=400:=HBS.out.2.2.2
   clear hl2 wn wd wu
   go_wp2
   go_loopw [2,59] (fun t2 ix wr=>∃ (g:Nat) (lf3:Int),g<=m/\ix=.int .i64 (g:Int)/\t2=.int .i64 lf3/\0<=lf3/\lf3<=lf2/\Hid (∀ o∈t.1.2.2.2.2.take g,OnS o)/\Below w.heap.size w wr) (fun _ ix _=>m - (RowKit.intOf ix).toNat)
   case atStart=>exact ⟨0,lf2,Nat.zero_le _,rfl,rfl,by omega,Int.le_refl _,(show Hid _ from fun o ho=>by simp at ho),hbn⟩
   case round=>
    clear C9 C10 hbn
    obtain ⟨g,lf3,hg,rfl,rfl,hf30,hf3,HO,hb2⟩:=hrel
    by_cases hgl:g < m
    ·have hgt:g < t.1.2.2.2.2.length:=by rw [HM.out];exact hgl
     obtain ⟨bo,oo,c0,c1,c2,c3,s1,s3,rfl,_,hbo,hXr,hSe,hco⟩:=onD_at HOn.out g hgt
     have hwo:=HWO.out _ (List.getElem_mem hgt)
     obtain ⟨o,ho⟩:∃ o,t.1.2.2.2.2[g]=o:=⟨_,rfl⟩
     rw [ho] at hXr hSe hco hwo
     have HOO:=mkHid ho
     obtain ⟨x1,x2,x3,x4,x5,x6,rfl,rfl,rfl,rfl⟩:=rdX_let hXr
     obtain ⟨ns,hns⟩:∃ m,o.2.2.2.1.length=m:=⟨_,rfl⟩
     obtain ⟨ev,he1,_,he2⟩:∃ e:ByteArray,sD o.1=.string e/\True/\e.size=o.1.length:=⟨⟨o.1.toArray⟩,rfl,trivial,(by show o.1.toArray.size=_;simp)⟩
     obtain ⟨tg,hg1,_,hg2⟩:∃ e:ByteArray,sD o.2.2.1=.string e/\True/\e.size=o.2.2.1.length:=⟨⟨o.2.2.1.toArray⟩,rfl,trivial,(by show o.2.2.1.toArray.size=_;simp)⟩
     obtain ⟨gb,hgb⟩:∃ x,o.2.1.1=x:=⟨_,rfl⟩
     obtain ⟨ol,hol⟩:∃ x,o.2.2.2.2.1=x:=⟨_,rfl⟩
     obtain ⟨oc,hoc⟩:∃ x,o.2.2.2.2.2=x:=⟨_,rfl⟩
     obtain ⟨v1,v2,v3,v4⟩:=hwo
     rw [hns] at hSe hco v3
     rw [he1,hg1,hgb,hol,hoc] at hco
     rw [<- he2] at v1
     rw [<- hg2] at v2
     have C9:=(hb2.cell (p:=⟨b,off+j*11+9,none⟩) hbl).trans HC9.out
     have O0:=(hb2.cell (p:=⟨bo,oo+g*10+0,none⟩) hbo).trans (hco 0 _ rfl)
     have O1:=(hb2.cell (p:=⟨bo,oo+g*10+1,none⟩) hbo).trans (hco 1 _ rfl)
     have O2:=(hb2.cell (p:=⟨bo,oo+g*10+2,none⟩) hbo).trans (hco 2 _ rfl)
     have O3:=(hb2.cell (p:=⟨bo,oo+g*10+3,none⟩) hbo).trans (hco 3 _ rfl)
     have O4:=(hb2.cell (p:=⟨bo,oo+g*10+4,none⟩) hbo).trans (hco 4 _ rfl)
     have O5:=(hb2.cell (p:=⟨bo,oo+g*10+5,none⟩) hbo).trans (hco 5 _ rfl)
     have O6:=(hb2.cell (p:=⟨bo,oo+g*10+6,none⟩) hbo).trans (hco 6 _ rfl)
     have O7:=(hb2.cell (p:=⟨bo,oo+g*10+7,none⟩) hbo).trans (hco 7 _ rfl)
     have O8:=(hb2.cell (p:=⟨bo,oo+g*10+8,none⟩) hbo).trans (hco 8 _ rfl)
     have O9:=(hb2.cell (p:=⟨bo,oo+g*10+9,none⟩) hbo).trans (hco 9 _ rfl)
     rw [Nat.add_zero] at O0
     have HEV:Hid (ev.size=o.1.length/\tg.size=o.2.2.1.length):=⟨he2,hg2⟩
     have HNS:Hid (o.2.2.2.1.length=ns):=hns
     have HSE:=mkHid hSe
     have hsm:=fun w1 (b1:Below w.heap.size w w1)=>refSmallTop_any (hXr.keep (ok':=ok) (fun k hk hl=>⟨hk,b1.block k hl⟩):RdX ok w1 o.2.1.2 _)
     obtain ⟨gs,hgs⟩:∃ x,decide (0<=sml o.2.1.2.1 o.2.1.2.2 0 200)=x:=⟨_,rfl⟩
     rw [hgs] at hsm
     have HGS:=mkHid hgs
     obtain ⟨_,_,hes,hcs,hms⟩:=hSe.form
     simp only [Value.slice.injEq] at hes
     obtain ⟨rfl,hx0,rfl⟩:=hes
     clear hx0
     rw [hns] at hcs
     unfold maxLen at hms
     clear he1 he2 hg1 hg2 hgb hol hoc hns ho hSe hco hXr hgs v4
     have i3:(g:Int) < (m:Int):=by omega
     have i4:(0:Int)<=(g:Int):=by omega
     have hal:Below wr.heap.size wr (wr.alloc (.cells #[.string ev,.bool gb,.int .i64 x1,.int .i64 x2,.string x3,.slice x4 x5 x6,.string tg,.slice s1 ns s3,.int .i64 ol,.int .i64 oc] 60)):=(Below.refl _ _).alloc Nat.le.refl _
     have hX:Bn (wr.alloc (.cells #[.string ev,.bool gb,.int .i64 x1,.int .i64 x2,.string x3,.slice x4 x5 x6,.string tg,.slice s1 ns s3,.int .i64 ol,.int .i64 oc] 60)) wr.heap.size [.string ev,.bool gb,.int .i64 x1,.int .i64 x2,.string x3,.slice x4 x5 x6,.string tg,.slice s1 ns s3,.int .i64 ol,.int .i64 oc]:=Bn.new wr [.string ev,.bool gb,.int .i64 x1,.int .i64 x2,.string x3,.slice x4 x5 x6,.string tg,.slice s1 ns s3,.int .i64 ol,.int .i64 oc] 60 _ rfl
     have hb3:=hb2.trans (hal.mono hb2.size)
     have hsm1:=hsm _ hb3
     clear hcall
     go_upto_region 13 with fail
     clear C9 O0 O1 O2 O3 O4 O5 O6 O7 O8 O9
     generalize (wr.alloc (.cells #[.string ev,.bool gb,.int .i64 x1,.int .i64 x2,.string x3,.slice x4 x5 x6,.string tg,.slice s1 ns s3,.int .i64 ol,.int .i64 oc] 60))=wx at *
     have z0:=(hX 0 _ rfl).1
     have z1:=(hX 1 _ rfl).1
     have z2:=(hX 2 _ rfl).1
     have z3:=(hX 3 _ rfl).1
     have z4:=(hX 4 _ rfl).1
     have z5:=(hX 5 _ rfl).1
     have z6:=(hX 6 _ rfl).1
     have z7:=(hX 7 _ rfl).1
     have z8:=(hX 8 _ rfl).1
     have z9:=(hX 9 _ rfl).1
     have hXl:=hX.lt
     obtain ⟨XO,hXO⟩:∃ x,wr.heap.size=x:=⟨_,rfl⟩
     rw [hXO] at hX hXl z0 z1 z2 z3 z4 z5 z6 z7 z8 z9 ⊢
     clear hal hXO hb2
     by_cases hneg4:lf3 - (ns:Int) - (ev.size:Int) / 50 - (tg.size:Int) / 50 < 0
     ·go_wp2
      go_ret
      exact ⟨-1,rfl,.inl rfl,hb3⟩
     have hneg5:0<=lf3 - (ns:Int) - (ev.size:Int) / 50 - (tg.size:Int) / 50:=by omega
     have HB5:Hid (ns<=400/\ev.size<=20050/\tg.size<=20050):=by show _/\_;omega
     have hns4:ns<=400:=HB5.out.1
     cases gs with
     | false=>
      go_wp2_with (first
       | (go_at_call 27;refine hsm1.mono ?_;rintro e w5 ⟨rfl,b5⟩)
       | fail)
      go_ret
      exact ⟨-1,rfl,.inl rfl,hb3.trans (b5.mono hb3.size)⟩
     | true=>
      go_upto_region 16 with (first
       | (go_at_call 27;refine hsm1.mono ?_;rintro e w5 ⟨rfl,b5⟩)
       | fail)
      clear z0 z1 z2 z3 z4 z5 z6 z7 z8 z9 hsm1 hsm
      have hb5:=hb3.trans (b5.mono hb3.size)
      have hX5:=hX.on b5
      have z7:=(hX5 7 _ rfl).1
      clear hX hb3 b5
      go_wp2
      obtain ⟨lf4,hlf4⟩:∃ x,lf3 - (ns:Int) - (ev.size:Int) / 50 - (tg.size:Int) / 50=x:=⟨_,rfl⟩
      have h43:lf4<=lf3:=by omega
      rw [hlf4] at hneg5 ⊢
      clear hlf4 hneg4 v1 v2
      go_loopw [96] (fun ix wr=>∃ (h:Nat),h<=ns/\ix=.int .i64 (h:Int)/\Hid (∀ s∈o.2.2.2.1.take h,s.1.length<=1000/\SmX s.2)/\Below w5.heap.size w5 wr) (fun ix _=>ns - (RowKit.intOf ix).toNat)
      case atStart=>exact ⟨0,Nat.zero_le _,rfl,(show Hid _ from fun s hs=>by simp at hs),Below.refl _ _⟩
      case round=>
       clear z7
       obtain ⟨h,hh,rfl,HSS,hb6⟩:=hrel
       have hbr:=hb5.trans (hb6.mono hb5.size)
       obtain ⟨z7,_⟩:=(hX5.on hb6) 7 _ rfl
       by_cases hhl:h < ns
       ·have hht:h < o.2.2.2.1.length:=by rw [HNS.out];exact hhl
        obtain ⟨bs,os,c0,c1,c2,c3,rfl,_,hbs,hXr,hcs2⟩:=setD_at HSE.out h hht
        obtain ⟨q,hq⟩:∃ q,o.2.2.2.1[h]=q:=⟨_,rfl⟩
        rw [hq] at hXr hcs2
        have HQ:=mkHid hq
        obtain ⟨y1,y2,y3,y4,y5,y6,rfl,rfl,rfl,rfl⟩:=rdX_let hXr
        obtain ⟨nm,he1,_,he2⟩:∃ e:ByteArray,sD q.1=.string e/\True/\e.size=q.1.length:=⟨⟨q.1.toArray⟩,rfl,trivial,(by show q.1.toArray.size=_;simp)⟩
        rw [he1] at hcs2
        have HNM:=mkHid he2
        have S0:=(hbr.cell (p:=⟨bs,os+h*5+0,none⟩) hbs).trans (hcs2 0 _ rfl)
        have S1:=(hbr.cell (p:=⟨bs,os+h*5+1,none⟩) hbs).trans (hcs2 1 _ rfl)
        have S2:=(hbr.cell (p:=⟨bs,os+h*5+2,none⟩) hbs).trans (hcs2 2 _ rfl)
        have S3:=(hbr.cell (p:=⟨bs,os+h*5+3,none⟩) hbs).trans (hcs2 3 _ rfl)
        have S4:=(hbr.cell (p:=⟨bs,os+h*5+4,none⟩) hbs).trans (hcs2 4 _ rfl)
        rw [Nat.add_zero] at S0
        have hsm2:=refSmallTop_any (hXr.keep (ok':=ok) (fun k hk hl=>⟨hk,hbr.block k hl⟩):RdX ok wr q.2 _)
        obtain ⟨ss,hss⟩:∃ x,decide (0<=sml q.2.1 q.2.2 0 200)=x:=⟨_,rfl⟩
        rw [hss] at hsm2
        have HS2:=mkHid hss
        clear hss he1 he2 hq hXr hcs2
        have i5:(h:Int) < (ns:Int):=by omega
        have i6:(0:Int)<=(h:Int):=by omega
        cases ss with
        | false=>
         go_wp2_with (first
          | (go_at_call 27;refine hsm2.mono ?_;rintro e w7 ⟨rfl,b7⟩)
          | fail)
         go_ret
         exact ⟨-1,rfl,.inl rfl,hbr.trans (b7.mono hbr.size)⟩
        | true=>
         by_cases h1000:1000 < nm.size
         ·have i7:(1000:Int) < (nm.size:Int):=by omega
          go_wp2_with (first
           | (go_at_call 27;refine hsm2.mono ?_;rintro e w7 ⟨rfl,b7⟩;have z7:=(b7.cell (p:=⟨XO,7,none⟩) (hX5.on hb6).lt).trans z7;have S0:=(b7.cell (p:=⟨bs,os+h*5,none⟩) (Nat.lt_of_lt_of_le hbs hbr.size)).trans S0)
           | fail)
          go_ret
          exact ⟨-1,rfl,.inl rfl,hbr.trans (b7.mono hbr.size)⟩
         ·have i7:¬ (1000:Int) < (nm.size:Int):=by omega
          go_wp2_with (first
           | (go_at_call 27;refine hsm2.mono ?_;rintro e w7 ⟨rfl,b7⟩;have z7:=(b7.cell (p:=⟨XO,7,none⟩) (hX5.on hb6).lt).trans z7;have S0:=(b7.cell (p:=⟨bs,os+h*5,none⟩) (Nat.lt_of_lt_of_le hbs hbr.size)).trans S0)
           | fail)
          go_roundw
          case rel=>
           refine ⟨h+1,hhl,by go_num,?_,hb6.trans (b7.mono hb6.size)⟩
           show ∀ s∈o.2.2.2.1.take (h+1),_
           rw [List.take_succ_eq_append_getElem hht,HQ.out]
           intro s hs
           rcases List.mem_append.1 hs with hs|hs
           ·exact HSS.out s hs
           ·rw [List.mem_singleton.1 hs]
            exact ⟨by rw [<- HNM.out];omega,(show 0<=sml q.2.1 q.2.2 0 200 from of_decide_eq_true HS2.out)⟩
          case measure=>simp [RowKit.intOf];omega
       ·have i5:¬ (h:Int) < (ns:Int):=by omega
        have hfull:o.2.2.2.1.take h=o.2.2.2.1:=List.take_of_length_le (by rw [HNS.out];omega)
        have hS:=HSS.out
        rw [hfull] at hS
        have hoS:OnS o:=⟨by rw [<- HEV.out.1];exact HB5.out.2.1,by rw [<- HEV.out.2];exact HB5.out.2.2,(show 0<=sml o.2.1.2.1 o.2.1.2.2 0 200 from of_decide_eq_true HGS.out),by rw [HNS.out];exact hns4,hS⟩
        go_wp2
        go_roundw
        case rel=>
         refine ⟨g+1,lf4,hgl,by go_num,rfl,hneg5,by omega,?_,hbr⟩
         show ∀ s∈t.1.2.2.2.2.take (g+1),_
         rw [List.take_succ_eq_append_getElem hgt,HOO.out]
         intro s hs
         rcases List.mem_append.1 hs with hs|hs
         ·exact HO.out s hs
         ·rw [List.mem_singleton.1 hs];exact hoS
        case measure=>simp [RowKit.intOf];omega
    ·have i3:¬ (g:Int) < (m:Int):=by omega
     have hfull:t.1.2.2.2.2.take g=t.1.2.2.2.2:=List.take_of_length_le (by rw [HM.out];omega)
     have hO:=HO.out
     rw [hfull] at hO
     have HHD:Hid (HdS t.1):=⟨by rw [<- HZ.out.1];exact HBS.out.1,by rw [<- HZ.out.2.1];exact HBS.out.2.1,by rw [<- HZ.out.2.2];exact HBS.out.2.2.1,by rw [HM.out];exact hm4,hO⟩
     have C10:=(hb2.cell (p:=⟨b,off+j*11+10,none⟩) hbl).trans HC10.out
     have hc1:=hcall lf3 hf30 (by omega) wr hb2
     clear hcall hO hfull
     go_upto_region 24 with (first
      | (go_at_call 11;refine hc1.mono ?_;rintro e w5 ⟨r,rfl,hr,b5⟩)
      | fail)
     have hb5:=hb2.trans (b5.mono hb2.size)
     rcases hr with rfl|⟨hr0,hr1,hr2⟩
     ·go_wp2
      go_ret
      exact ⟨-1,rfl,.inl rfl,hb5⟩
     ·have hr3:¬ r < 0:=by omega
      have HR:=mkHid hr1
      have hr4:r<=lf3:=by omega
      clear hr1
      go_wp2
      go_roundw
      case rel=>
       refine ⟨j+1,r,hlt,by go_num,rfl,hr0,by omega,?_,hb5⟩
       show _/\∀ s∈l.take (j+1),_
       rw [List.take_succ_eq_append_getElem hjl,HT.out,tot_snoc]
       have q1:=HI.out.1
       have q2:=HR.out
       refine ⟨by omega,fun s hs=>?_⟩
       rcases List.mem_append.1 hs with hs|hs
       ·exact HI.out.2 s hs
       ·rw [List.mem_singleton.1 hs]
        exact ⟨HHD.out,hr2⟩
      case measure=>simp [RowKit.intOf];omega
  ·have i1:¬ (j:Int) < (n:Int):=by omega
   have hjn:l.take j=l:=List.take_of_length_le (by rw [HN.out];omega)
   have hI:=HI.out
   rw [hjn] at hI
   go_wp2
   go_ret
   exact ⟨lf,rfl,.inr ⟨hf0,hI.1,hI.2⟩,hb⟩
theorem sm_zero:SmC 0:=by
 intro ok w l v dep left h hln hwf hdep hl0 hl4
 cases l with
 | cons x _=>exact Empty.elim x
 | nil=>
  obtain ⟨a,cap,rfl,_⟩:=h.form
  simp only [List.length_nil]
  clear h
  by_cases hd15:15 < dep
  ·have i0:(15:Int) < (dep:Int):=by omega
   go_enter Tryz.func11,Tryz.ntmps11
   go_wp2
   go_ret
   exact ⟨-1,rfl,.inl rfl,Below.refl _ _⟩
  have i0:¬ (15:Int) < (dep:Int):=by omega
  go_enter Tryz.func11,Tryz.ntmps11
  go_wp2
  go_loopw [2,15] (fun t2 i wr=>t2=.int .i64 left/\i=.int .i64 0/\Below w.heap.size w wr) (fun _ _ _=>0)
  case atStart=>exact ⟨rfl,rfl,Below.refl _ _⟩
  case round=>
   obtain ⟨rfl,rfl,hb⟩:=hrel
   go_wp2
   go_ret
   exact ⟨left,rfl,.inr ⟨hl0,by simp [totS],fun t ht=>by cases ht⟩,hb⟩
theorem sm_any:∀ d,SmC d
 | 0=>sm_zero
 | d+1=>sm_step d (sm_any d)
def SmCh (d:Nat) (c:ChD d):Prop:=c.1.1.length<=1000/\c.2.2.1.length<=200/\totS d c.2.2.2<=400/\∀ t∈c.2.2.2,SmS d t
theorem small_any {ok:Nat->Prop}{w:World}{d:Nat}{c:ChD d}{v:Value}(h:RdD ok w d c v) (hwf:WfC d c):Calls Tryz.prog 5 #[v] w fun e w'=>∃ b:Bool,e=.returned (.bool b)/\(b=true->SmCh d c)/\Below w.heap.size w w':=by
 obtain ⟨sv,ss,rfl,hv,hs⟩:=h
 obtain ⟨p1,p3,rfl,hp1,hp2⟩:=hv.form
 obtain ⟨p4,p6,rfl,_⟩:=hs.form
 unfold maxLen at hp2
 obtain ⟨s0,he1,he2⟩:∃ e:ByteArray,sD c.1.1=.string e/\e.size=c.1.1.length:=⟨⟨c.1.1.toArray⟩,rfl,(by show c.1.1.toArray.size=_;simp)⟩
 rw [he1]
 have hcall:=fun w1 (b1:Below w.heap.size w w1)=>sm_any d ok w1 c.2.2.2 _ 0 400 (hs.stay (kp_stD d) (fun k hk hl=>⟨hk,b1.block k hl⟩)) hwf.2.2.1 hwf.2.2.2 (by omega) (by omega) (by omega)
 obtain ⟨nv,hnv⟩:∃ n,c.2.2.1.length=n:=⟨_,rfl⟩
 obtain ⟨ni,hni⟩:∃ n,c.2.2.2.length=n:=⟨_,rfl⟩
 obtain ⟨vn,hvn⟩:∃ x,c.2.1=x:=⟨_,rfl⟩
 obtain ⟨pl,hpl⟩:∃ x,c.1.2.1=x:=⟨_,rfl⟩
 obtain ⟨pc,hpc⟩:∃ x,c.1.2.2=x:=⟨_,rfl⟩
 rw [hnv] at hp1
 rw [hnv,hni,hvn,hpl,hpc]
 simp only [hni] at hcall
 have HE:Hid (s0.size=c.1.1.length/\c.2.2.1.length=nv):=⟨he2,hnv⟩
 clear he1 he2 hnv hni hvn hpl hpc hv hs
 have hal:Below w.heap.size w (w.alloc (.cells #[.string s0,.int .i64 vn,.int .i64 pl,.int .i64 pc,.slice p1 nv p3,.slice p4 ni p6] 27)):=(Below.refl w.heap.size w).alloc Nat.le.refl _
 have hX:Bn (w.alloc (.cells #[.string s0,.int .i64 vn,.int .i64 pl,.int .i64 pc,.slice p1 nv p3,.slice p4 ni p6] 27)) w.heap.size [.string s0,.int .i64 vn,.int .i64 pl,.int .i64 pc,.slice p1 nv p3,.slice p4 ni p6]:=Bn.new w [.string s0,.int .i64 vn,.int .i64 pl,.int .i64 pc,.slice p1 nv p3,.slice p4 ni p6] 27 _ rfl
 have hc1:=hcall _ hal
 clear hcall
 go_enter Tryz.func5,Tryz.ntmps5
 go_upto_region 1 with fail
 generalize (w.alloc (.cells #[.string s0,.int .i64 vn,.int .i64 pl,.int .i64 pc,.slice p1 nv p3,.slice p4 ni p6] 27))=wx at *
 have x0:=(hX 0 _ rfl).1
 have x4:=(hX 4 _ rfl).1
 have x5:=(hX 5 _ rfl).1
 clear hX
 by_cases h1:nv<=200
 ·by_cases h2:s0.size<=1000
  ·have i1:(nv:Int)<=200:=by omega
   have i2:(s0.size:Int)<=1000:=by omega
   go_wp2_with (first
    | (go_at_call 11;refine hc1.mono ?_;rintro e w5 ⟨r,rfl,hr,b5⟩;have hb5:=hal.trans (b5.mono hal.size);obtain ⟨rb,hrb⟩:∃ b,decide (0<=r)=b:=⟨_,rfl⟩)
    | fail)
   go_ret
   refine ⟨_,rfl,fun hb=>?_,hb5⟩
   rcases hr with rfl|⟨hr0,hr1,hr2⟩
   ·rw [<- hrb] at hb
    exact absurd hb (by decide)
   ·exact ⟨by rw [<- HE.out.1];exact h2,by rw [HE.out.2];exact h1,by omega,hr2⟩
  ·have i1:(nv:Int)<=200:=by omega
   have i2:¬ (s0.size:Int)<=1000:=by omega
   go_wp2
   go_ret
   exact .inl ⟨rfl,hal⟩
 ·have i1:¬ (nv:Int)<=200:=by omega
  go_wp2
  go_ret
  exact .inl ⟨rfl,hal⟩
