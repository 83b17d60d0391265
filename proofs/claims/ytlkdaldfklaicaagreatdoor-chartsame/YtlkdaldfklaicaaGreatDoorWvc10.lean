import Derived.Test.YtlkdaldfklaicaaGreatDoorWvc01
import Derived.Test.YtlkdaldfklaicaaGreatDoorWvc09
import Derived.Test.YtlkdaldfklaicaaGreatDoorWvc08
import Derived.Test.YtlkdaldfklaicaaGreatDoorWvc02
set_option maxRecDepth 100000
set_option maxHeartbeats 32000000
namespace Go.Proofs.YtlkdaldfklaicaaGreatDoor
open Go.RowKit Go.Lib
set_option linter.unusedSimpArgs false
set_option linter.unusedVariables false
attribute [local go_sem ↓] Go.wp_at_zero Go.wp_at_succ
theorem Tryz.infoESt:(Tryz.prog.info? 45).map (fun i=>(i.zero,i.size,i.bytes))=some (some (.agg #[.string ⟨#[]⟩,.int .i64 0,.int .i64 0,.bool false,.bool false,.string ⟨#[]⟩,.string ⟨#[]⟩,.int .i64 0,.int .i64 0,.slice none 0 0,.slice none 0 0]),11,136):=by kernel_rfl
def stH (h:HdC):HdC:=((h.1.1,(0,0)),h.2.1,h.2.2.1,h.2.2.2.1,h.2.2.2.2.map stO)
def zjY (h:HdC):Prop:=h.1.1.length<=140737488351232/\h.2.2.1.1.length<=140737488351232/\h.2.2.1.2.length<=140737488351232/\h.2.2.2.2.length<=100000/\∀ o∈h.2.2.2.2,zeO o
def rHf (d:Nat) (okO:Nat->Prop) (w0:World) (ok:Nat->Prop) (w:World) (t:St (d+1)) (cs:List Value):Prop:=∃ so si,cs=hdV (stH t.1) so si/\RdK ok w 6 (rOn ok w) (t.1.2.2.2.2.map stO) so/\RdK okO w0 11 (rSt d okO w0) t.2 si
theorem zj9 (d:Nat) (okO:Nat->Prop) (w0:World):Kp (rHf d okO w0):=fun _ _ _ _ _ _ ⟨so,si,h,h1,h2⟩ hk=>⟨so,si,h,h1.stay zB hk,h2⟩
theorem zeu {ok:Nat->Prop}{w:World}{d:Nat}{l:List (St (d+1))}{a:Option Addr}{n cap:Nat}(h:RdK ok w 11 (rSt (d+1) ok w) l (.slice a n cap)) (j:Nat) (hj:j < l.length):∃ b off p1 p3 p4 p6,a=some ⟨b,off,none⟩/\b < w.heap.size/\RdK ok w 6 (rOn ok w) l[j].1.2.2.2.2 (.slice p1 l[j].1.2.2.2.2.length p3)/\RdK ok w 11 (rSt d ok w) l[j].2 (.slice p4 l[j].2.length p6)/\∀ i u,(hdV l[j].1 (.slice p1 l[j].1.2.2.2.2.length p3) (.slice p4 l[j].2.length p6))[i]?=some u->w.cell? ⟨b,off+j*11+i,none⟩=some u:=by
 obtain ⟨a1,cap1,he,h1,h2,h3⟩:=h
 simp only [Value.slice.injEq] at he
 obtain ⟨rfl,rfl,rfl⟩:=he
 obtain ⟨b,off,cs,ha,_,hb,hl,⟨so,si,rfl,hs,hi⟩,hc⟩:=h3 j hj
 obtain ⟨s1,s3,rfl,_⟩:=hs.form
 obtain ⟨s4,s6,rfl,_⟩:=hi.form
 exact ⟨b,off,s1,s3,s4,s6,ha,hb,hs,hi,hc⟩
theorem zhd {d:Nat}{ok:Nat->Prop}{w:World}{l:List (St (d+1))}{v:Value}(h:RdK ok w 11 (rSt (d+1) ok w) l v) (hl:l.length<=100000) (hok:∀ s∈l,zjY s.1) :
  Calls Tryz.prog 25 #[v,.func (.func 26) #[] #[]] w fun e w'=>e=.returned (.slice (some ⟨w.heap.size,0,none⟩) l.length l.length)/\RowG w' w.heap.size 11 l.length (rHf d ok w) (l)/\Below w.heap.size w w'/\w.heap.size < w'.heap.size:=by
 obtain ⟨ie,hie,hie0,hie1,hie2⟩:=info_parts Tryz.infoESt
 obtain ⟨a,cap,rfl,hlc,hcm⟩:=h.form
 unfold maxLen at hcm
 have HC:=zm h
 have HK:=zm hok
 obtain ⟨n,hn⟩:∃ n,l.length=n:=⟨_,rfl⟩
 rw [hn] at hlc hl ⊢
 have HN:Hid (l.length=n):=hn
 clear h hok hn
 have hmk:=run_make (P:=Tryz.prog) w 31 45 ie _ Tryz.underlying31 hie hie0 .i64 .i64 (n:Int) (n:Int) (by omega) (by omega) (by rw [hie2];omega) (by omega)
 rw [Int.toNat_natCast,hie1] at hmk
 have hG0:RowG (w.alloc (.cells (madeCells (.agg #[.string ⟨#[]⟩,.int .i64 0,.int .i64 0,.bool false,.bool false,.string ⟨#[]⟩,.string ⟨#[]⟩,.int .i64 0,.int .i64 0,.slice none 0 0,.slice none 0 0]:Value).cells (n*11)) 45)) w.heap.size 11 n (rHf d ok w) ([]:List (St (d+1))):=RowG.made w _ 11 n _ _
 have hb0:Below w.heap.size w (w.alloc (.cells (madeCells (.agg #[.string ⟨#[]⟩,.int .i64 0,.int .i64 0,.bool false,.bool false,.string ⟨#[]⟩,.string ⟨#[]⟩,.int .i64 0,.int .i64 0,.slice none 0 0,.slice none 0 0]:Value).cells (n*11)) 45)):=zn3.alloc zn2 _
 have hs0:(w.alloc (.cells (madeCells (.agg #[.string ⟨#[]⟩,.int .i64 0,.int .i64 0,.bool false,.bool false,.string ⟨#[]⟩,.string ⟨#[]⟩,.int .i64 0,.int .i64 0,.slice none 0 0,.slice none 0 0]:Value).cells (n*11)) 45)).heap.size=w.heap.size+1:=by simp
 generalize w.alloc (.cells (madeCells (.agg #[.string ⟨#[]⟩,.int .i64 0,.int .i64 0,.bool false,.bool false,.string ⟨#[]⟩,.string ⟨#[]⟩,.int .i64 0,.int .i64 0,.slice none 0 0,.slice none 0 0]:Value).cells (n*11)) 45)=w0 at *
 go_enter Tryz.func25,Tryz.ntmps25
 go_wp2
 go_loopw [13] (fun ix wr=>∃ (i:Nat),i<=n/\ix=.int .i64 (i:Int)/\RowG wr w.heap.size 11 n (rHf d ok w) ((l).take i)/\Below w.heap.size w wr/\w.heap.size < wr.heap.size) (fun ix _=>n - (RowKit.intOf ix).toNat)
 case atStart=>exact ⟨0,Nat.zero_le _,rfl,hG0,hb0,by omega⟩
 case round=>
  obtain ⟨i,hi,rfl,hRow,hb,hGs⟩:=hrel
  clear hG0 hb0 hs0 hmk
  by_cases hlt:i < n
  ·have hil:i < l.length:=by rw [HN.out];exact hlt
   obtain ⟨b,off,p1,p3,p4,p6,rfl,hbl,hOn,hIn,hc⟩:=zeu HC.out i hil
   have hko:=HK.out _ (List.getElem_mem hil)
   obtain ⟨t,ht⟩:∃ t,l[i]=t:=⟨_,rfl⟩
   rw [ht] at hOn hIn hc hko
   obtain ⟨m,hm⟩:∃ m,t.1.2.2.2.2.length=m:=⟨_,rfl⟩
   obtain ⟨ni,hni⟩:∃ m,t.2.length=m:=⟨_,rfl⟩
   rw [hm] at hOn hc
   rw [hni] at hIn hc
   obtain ⟨sn,hsn⟩:∃ s:ByteArray,⟨t.1.1.1.toArray⟩=s:=⟨_,rfl⟩
   obtain ⟨sd,hsd⟩:∃ s:ByteArray,⟨t.1.2.2.1.1.toArray⟩=s:=⟨_,rfl⟩
   obtain ⟨su,hsu⟩:∃ s:ByteArray,⟨t.1.2.2.1.2.toArray⟩=s:=⟨_,rfl⟩
   have hz1:sn.size<=140737488351232:=by rw [<- hsn];show t.1.1.1.toArray.size<=_;simpa using hko.1
   have hz2:sd.size<=140737488351232:=by rw [<- hsd];show t.1.2.2.1.1.toArray.size<=_;simpa using hko.2.1
   have hz3:su.size<=140737488351232:=by rw [<- hsu];show t.1.2.2.1.2.toArray.size<=_;simpa using hko.2.2.1
   obtain ⟨sl,hsl⟩:∃ x,t.1.1.2.1=x:=⟨_,rfl⟩
   obtain ⟨sc,hsc⟩:∃ x,t.1.1.2.2=x:=⟨_,rfl⟩
   obtain ⟨sb,hsb⟩:∃ x,t.1.2.1.1=x:=⟨_,rfl⟩
   obtain ⟨se,hse⟩:∃ x,t.1.2.1.2=x:=⟨_,rfl⟩
   obtain ⟨sw,hsw⟩:∃ x,t.1.2.2.2.1.1=x:=⟨_,rfl⟩
   obtain ⟨sr,hsr⟩:∃ x,t.1.2.2.2.1.2=x:=⟨_,rfl⟩
   have hv:∀ so si,hdV t.1 so si=[.string sn,.int .i64 sl,.int .i64 sc,.bool sb,.bool se,.string sd,.string su,.int .i64 sw,.int .i64 sr,so,si]:=fun so si=>by
    unfold hdV sV
    rw [hsn,hsd,hsu,hsl,hsc,hsb,hse,hsw,hsr]
   have hv2:∀ so si,hdV (stH t.1) so si=[.string sn,.int .i64 0,.int .i64 0,.bool sb,.bool se,.string sd,.string su,.int .i64 sw,.int .i64 sr,so,si]:=fun so si=>by
    show [sV t.1.1.1,.int .i64 0,.int .i64 0,.bool t.1.2.1.1,.bool t.1.2.1.2,sV t.1.2.2.1.1,sV t.1.2.2.1.2,.int .i64 t.1.2.2.2.1.1,.int .i64 t.1.2.2.2.1.2,so,si]=_
    unfold sV
    rw [hsn,hsd,hsu,hsb,hse,hsw,hsr]
   rw [hv] at hc
   have HQ:Hid (l[i]=t):=ht
   have HV2:Hid (∀ so si,hdV (stH t.1) so si=[.string sn,.int .i64 0,.int .i64 0,.bool sb,.bool se,.string sd,.string su,.int .i64 sw,.int .i64 sr,so,si]):=hv2
   have HM:Hid (t.1.2.2.2.2.length=m):=hm
   have HKO:Hid (zjY t.1):=hko
   have HON:Hid (RdK ok w 6 (rOn ok w) t.1.2.2.2.2 (.slice p1 m p3)):=hOn
   have HIN:Hid (RdK ok w 11 (rSt d ok w) t.2 (.slice p4 ni p6)):=hIn
   clear ht hm hni hko hOn hIn hsn hsd hsu hsl hsc hsb hse hsw hsr hv hv2
   obtain ⟨acc,hac⟩:∃ acc,(l).take i=acc:=⟨_,rfl⟩
   have hla:acc.length=i:=by rw [<- hac];simp [HN.out];omega
   rw [hac] at hRow
   have HAC:Hid ((l).take i=acc):=hac
   clear hac
   have i1:(i:Int) < (n:Int):=by omega
   have i2:(0:Int)<=(i:Int):=by omega
   have C0:=(hb.cell (p:=⟨b,off+i*11+0,none⟩) hbl).trans (hc 0 _ rfl)
   have C1:=(hb.cell (p:=⟨b,off+i*11+1,none⟩) hbl).trans (hc 1 _ rfl)
   have C2:=(hb.cell (p:=⟨b,off+i*11+2,none⟩) hbl).trans (hc 2 _ rfl)
   have C3:=(hb.cell (p:=⟨b,off+i*11+3,none⟩) hbl).trans (hc 3 _ rfl)
   have C4:=(hb.cell (p:=⟨b,off+i*11+4,none⟩) hbl).trans (hc 4 _ rfl)
   have C5:=(hb.cell (p:=⟨b,off+i*11+5,none⟩) hbl).trans (hc 5 _ rfl)
   have C6:=(hb.cell (p:=⟨b,off+i*11+6,none⟩) hbl).trans (hc 6 _ rfl)
   have C7:=(hb.cell (p:=⟨b,off+i*11+7,none⟩) hbl).trans (hc 7 _ rfl)
   have C8:=(hb.cell (p:=⟨b,off+i*11+8,none⟩) hbl).trans (hc 8 _ rfl)
   have C9:=(hb.cell (p:=⟨b,off+i*11+9,none⟩) hbl).trans (hc 9 _ rfl)
   have C10:=(hb.cell (p:=⟨b,off+i*11+10,none⟩) hbl).trans (hc 10 _ rfl)
   rw [Nat.add_zero] at C0
   clear hc
   have hal:=(Below.refl wr.heap.size wr).alloc zn2 (.cells #[.string sn,.int .i64 sl,.int .i64 sc,.bool sb,.bool se,.string sd,.string su,.int .i64 sw,.int .i64 sr,.slice p1 m p3,.slice p4 ni p6] 45)
   have hX:=Bn.new wr [.string sn,.int .i64 sl,.int .i64 sc,.bool sb,.bool se,.string sd,.string su,.int .i64 sw,.int .i64 sr,.slice p1 m p3,.slice p4 ni p6] 45 _ rfl
   have hRx:=hRow.on (zj9 d ok w) hGs hal
   have hbx:=hb.trans (hal.mono hb.size)
   have hGx:=zn4 hGs hal.size
   have hcall:∀ w1,Below w.heap.size w w1->Calls Tryz.prog 26 #[.agg #[.string sn,.int .i64 sl,.int .i64 sc,.bool sb,.bool se,.string sd,.string su,.int .i64 sw,.int .i64 sr,.slice p1 m p3,.slice p4 ni p6]] w1 fun e w'=>∃ u1 u3,e=.returned (.agg #[.string sn,.int .i64 0,.int .i64 0,.bool sb,.bool se,.string sd,.string su,.int .i64 sw,.int .i64 sr,.slice u1 m u3,.slice p4 ni p6])/\RdK (fun b=>w1.heap.size<=b) w' 6 (rOn (fun b=>w1.heap.size<=b) w') (t.1.2.2.2.2.map stO) (.slice u1 m u3)/\Below w1.heap.size w1 w':=fun w1 b1=>zhK sn sl sc sb se sd su sw sr p1 m p3 p4 ni p6 t.1.2.2.2.2 hz1 hz2 hz3 (HON.out.stay zB (ok':=ok) (fun b hb hl=>⟨hb,b1.block b hl⟩)) HM.out (by have:=HKO.out.2.2.2.1;rw [HM.out] at this;exact this) HKO.out.2.2.2.2
   go_upto_region 5 with fail
   clear C0 C1 C2 C3 C4 C5 C6 C7 C8 C9 C10 hal
   generalize wr.alloc (.cells #[.string sn,.int .i64 sl,.int .i64 sc,.bool sb,.bool se,.string sd,.string su,.int .i64 sw,.int .i64 sr,.slice p1 m p3,.slice p4 ni p6] 45)=wx at *
   obtain ⟨X,hXX⟩:∃ X,wr.heap.size=X:=⟨_,rfl⟩
   rw [hXX] at hX ⊢
   have HXX:Hid (wr.heap.size=X):=hXX
   clear hXX
   have x0:=(hX 0 _ rfl).1
   have x1:=(hX 1 _ rfl).1
   have x2:=(hX 2 _ rfl).1
   have x3:=(hX 3 _ rfl).1
   have x4:=(hX 4 _ rfl).1
   have x5:=(hX 5 _ rfl).1
   have x6:=(hX 6 _ rfl).1
   have x7:=(hX 7 _ rfl).1
   have x8:=(hX 8 _ rfl).1
   have x9:=(hX 9 _ rfl).1
   have x10:=(hX 10 _ rfl).1
   go_wp2_with (first
    | (go_at_call 26;refine (hcall _ hbx).mono ?_;rintro e w1 ⟨u1,u3,rfl,hr,b1⟩;have hp:rHf d ok w (fun b=>w.heap.size < b) w1 t [.string sn,.int .i64 0,.int .i64 0,.bool sb,.bool se,.string sd,.string su,.int .i64 sw,.int .i64 sr,.slice u1 m u3,.slice p4 ni p6]:=(⟨.slice u1 m u3,.slice p4 ni p6,(HV2.out _ _).symm,hr.stay zB (fun b hb hl=>⟨zn4 hGx hb,rfl⟩),HIN.out⟩);clear hr;have hR1:=hRx.on (zj9 d ok w) hGx b1;obtain ⟨⟨r0,q0⟩,z0⟩:=hR1.1 (i*11+0) (zM hlt (by omega));obtain ⟨⟨r1,q1⟩,z1⟩:=hR1.1 (i*11+1) (zM hlt (by omega));obtain ⟨⟨r2,q2⟩,z2⟩:=hR1.1 (i*11+2) (zM hlt (by omega));obtain ⟨⟨r3,q3⟩,z3⟩:=hR1.1 (i*11+3) (zM hlt (by omega));obtain ⟨⟨r4,q4⟩,z4⟩:=hR1.1 (i*11+4) (zM hlt (by omega));obtain ⟨⟨r5,q5⟩,z5⟩:=hR1.1 (i*11+5) (zM hlt (by omega));obtain ⟨⟨r6,q6⟩,z6⟩:=hR1.1 (i*11+6) (zM hlt (by omega));obtain ⟨⟨r7,q7⟩,z7⟩:=hR1.1 (i*11+7) (zM hlt (by omega));obtain ⟨⟨r8,q8⟩,z8⟩:=hR1.1 (i*11+8) (zM hlt (by omega));obtain ⟨⟨r9,q9⟩,z9⟩:=hR1.1 (i*11+9) (zM hlt (by omega));obtain ⟨⟨r10,q10⟩,z10⟩:=hR1.1 (i*11+10) (zM hlt (by omega));rw [Nat.add_zero] at q0 z0)
    | fail)
   have hP:=hR1.put (zj9 d ok w) (x:=t) (cs:=[.string sn,.int .i64 0,.int .i64 0,.bool sb,.bool se,.string sd,.string su,.int .i64 sw,.int .i64 sr,.slice u1 m u3,.slice p4 ni p6]) (by rw [hla];exact hlt) rfl hp
   rw [hla] at hP
   have hb2:=zx [.string sn,.int .i64 0,.int .i64 0,.bool sb,.bool se,.string sd,.string su,.int .i64 sw,.int .i64 sr,.slice u1 m u3,.slice p4 ni p6] w1 w.heap.size (i*11) (hbx.trans (b1.mono (Nat.le_of_lt hGx))) zn2
   have hs2:w.heap.size < (zV w1 w.heap.size (i*11) [.string sn,.int .i64 0,.int .i64 0,.bool sb,.bool se,.string sd,.string su,.int .i64 sw,.int .i64 sr,.slice u1 m u3,.slice p4 ni p6]).heap.size:=by rw [za7];exact zn4 hGx b1.size
   have hac2:(l).take (i+1)=acc++[t]:=by
    rw [List.take_succ_eq_append_getElem (by simp [HN.out];omega),HAC.out]
    simp [HQ.out]
   clear x0 r0 q0 z0 x1 r1 q1 z1 x2 r2 q2 z2 x3 r3 q3 z3 x4 r4 q4 z4 x5 r5 q5 z5 x6 r6 q6 z6 x7 r7 q7 z7 x8 r8 q8 z8 x9 r9 q9 z9 x10 r10 q10 z10 hR1 hRx hp
   go_wp2
   go_roundw
   case rel=>exact ⟨i+1,hlt,by go_num,by rw [hac2];exact hP,hb2,hs2⟩
   case measure=>simp [RowKit.intOf];omega
  ·have i1:¬ (i:Int) < (n:Int):=by omega
   have hin:i=n:=by omega
   have hfull:(l).take i=l:=List.take_of_length_le (by simp [HN.out];omega)
   rw [hfull] at hRow
   go_wp2
   go_ret
   exact ⟨rfl,hRow,hb,hGs⟩
theorem Tryz.infoEVar:(Tryz.prog.info? 49).map (fun i=>(i.zero,i.size,i.bytes))=some (some (.agg #[.string ⟨#[]⟩,.int .i64 0,.int .i64 0,.int .i64 0]),4,40):=by kernel_rfl
theorem zlp {w4:World}{R:Nat}{a b c d:Value}{tmps:Array Value}(hR:Bn w4 R [a,b,c,d]) (ht:tmps.getD 2 undef=.pointer (some ⟨R,0,none⟩)):(results Tryz.f24 tmps).run Tryz.prog w4=.ok (.agg #[a,b,c,d]) w4:=by
 have ht':tmps[2]?.getD undef=.pointer (some ⟨R,0,none⟩):=by simpa using ht
 have c0:=(hR 0 _ rfl).1
 have c1:=(hR 1 _ rfl).1
 have c2:=(hR 2 _ rfl).1
 have c3:=(hR 3 _ rfl).1
 simp [results,Tryz.results24,go_sem,ht',c0,c1,c2,c3]
theorem zkc (w:World) (nm:ByteArray) (x pl pc:Int) (h1:nm.size<=140737488351232):Calls Tryz.prog 24 #[.agg #[.string nm,.int .i64 x,.int .i64 pl,.int .i64 pc]] w fun e w'=>e=.returned (.agg #[.string nm,.int .i64 x,.int .i64 0,.int .i64 0])/\Below w.heap.size w w':=by
 have g1:=fun w1=>zQ nm w1 h1
 have hal:Below w.heap.size w ((w.alloc (.cells #[.string nm,.int .i64 x,.int .i64 pl,.int .i64 pc] 49)).alloc (.cells #[.string ⟨#[]⟩,.int .i64 0,.int .i64 0,.int .i64 0] 49)):=((Below.refl w.heap.size w).alloc zn2 _).alloc (by simp) _
 have hX:Bn ((w.alloc (.cells #[.string nm,.int .i64 x,.int .i64 pl,.int .i64 pc] 49)).alloc (.cells #[.string ⟨#[]⟩,.int .i64 0,.int .i64 0,.int .i64 0] 49)) w.heap.size [.string nm,.int .i64 x,.int .i64 pl,.int .i64 pc]:=(Bn.new w [.string nm,.int .i64 x,.int .i64 pl,.int .i64 pc] 49 _ rfl).on (zn3.alloc zn2 _)
 have hR:Bn ((w.alloc (.cells #[.string nm,.int .i64 x,.int .i64 pl,.int .i64 pc] 49)).alloc (.cells #[.string ⟨#[]⟩,.int .i64 0,.int .i64 0,.int .i64 0] 49)) (w.heap.size+1) [.string ⟨#[]⟩,.int .i64 0,.int .i64 0,.int .i64 0]:=Bn.new (w.alloc (.cells #[.string nm,.int .i64 x,.int .i64 pl,.int .i64 pc] 49)) [.string ⟨#[]⟩,.int .i64 0,.int .i64 0,.int .i64 0] 49 _ (by simp)
 go_enter Tryz.func24,Tryz.ntmps24
 go_upto_region 1 with fail
 generalize ((w.alloc (.cells #[.string nm,.int .i64 x,.int .i64 pl,.int .i64 pc] 49)).alloc (.cells #[.string ⟨#[]⟩,.int .i64 0,.int .i64 0,.int .i64 0] 49))=wx at *
 have hB:Below wx.heap.size wx wx:=Below.refl _ _
 have c0:=(hX 0 _ rfl).1
 have c1:=(hX 1 _ rfl).1
 have hlt:=hX.lt
 obtain ⟨S,hS⟩:∃ S,w.heap.size=S:=⟨_,rfl⟩
 rw [hS] at c0 c1 hlt hR ⊢
 have HS:Hid (w.heap.size=S):=hS
 clear hX hS
 have n1:S≠S+1:=by omega
 have y0:=c0
 have y1:=c1
 go_region_held_law (fun w'=>w'.cell? ⟨S,0,none⟩=some (.string nm)/\w'.cell? ⟨S,1,none⟩=some (.int .i64 x))
  ((refine ⟨?_,?_⟩<;>(repeat (with_reducible first|exact y0|exact y1|refine zh ?_|refine za (zg n1) ?_))<;>done))
  (first
   | (go_at_call 22;(with_reducible refine (g1 _).mono ?_);rintro e w1 ⟨rfl,b1⟩;(first|have hB:=Below.nxd hB b1|have hB:=Below.nx hB b1);have hR1:=hR.on hB;obtain ⟨r0,f0⟩:=hR1 0 _ rfl;obtain ⟨r1,f1⟩:=hR1 1 _ rfl;obtain ⟨r2,f2⟩:=hR1 2 _ rfl;obtain ⟨r3,f3⟩:=hR1 3 _ rfl;have y0:=(hB.cell (p:=⟨S,0,none⟩) hlt).trans c0;have y1:=(hB.cell (p:=⟨S,1,none⟩) hlt).trans c1)
   | fail)
 all_goals (
  have hR2:=(((hR1.set (i:=0) (by simp) (.string nm)).set (i:=1) (by simp) (.int .i64 x)).set (i:=2) (by simp) (.int .i64 0)).set (i:=3) (by simp) (.int .i64 0)
  have hb2:=zx [.string nm,.int .i64 x,.int .i64 0,.int .i64 0] w1 (S+1) 0 (hal.trans (hB.mono (by have:=hal.size;omega))) (by have:=HS.out;omega)
  go_wp2
  exact bodyPost_ret (zlp hR2 rfl) rfl ⟨rfl,hb2⟩)
def spV (v:List UInt8 × Int × Pl):List UInt8 × Int × Pl:=(v.1,v.2.1,(0,0))
theorem zcL {ok:Nat->Prop}{w:World}{l:List (List UInt8 × Int × Pl)}{a:Option Addr}{n cap:Nat}(h:RdK ok w 4 (zbo ok w) l (.slice a n cap)) (j:Nat) (hj:j < l.length):∃ b off,a=some ⟨b,off,none⟩/\b < w.heap.size/\∀ i u,(zcy l[j])[i]?=some u->w.cell? ⟨b,off+j*4+i,none⟩=some u:=by
 obtain ⟨a1,cap1,he,h1,h2,h3⟩:=h
 simp only [Value.slice.injEq] at he
 obtain ⟨rfl,rfl,rfl⟩:=he
 obtain ⟨b,off,cs,ha,_,hb,hl,hr,hc⟩:=h3 j hj
 have hr:cs=zcy l[j]:=hr
 subst hr
 exact ⟨b,off,ha,hb,hc⟩
theorem zgZ {ok:Nat->Prop}{w:World}{l:List (List UInt8 × Int × Pl)}{v:Value}(h:RdK ok w 4 (zbo ok w) l v) (hl:l.length<=100000) (hok:∀ s∈l,s.1.length<=140737488351232) :
  Calls Tryz.prog 23 #[v,.func (.func 24) #[] #[]] w fun e w'=>∃ u,e=.returned u/\RdK (fun b=>w.heap.size<=b) w' 4 (zbo (fun b=>w.heap.size<=b) w') (l.map spV) u/\Below w.heap.size w w':=by
 obtain ⟨ie,hie,hie0,hie1,hie2⟩:=info_parts Tryz.infoEVar
 obtain ⟨a,cap,rfl,hlc,hcm⟩:=h.form
 unfold maxLen at hcm
 have HC:=zm h
 have HK:=zm hok
 obtain ⟨n,hn⟩:∃ n,l.length=n:=⟨_,rfl⟩
 rw [hn] at hlc hl ⊢
 have HN:Hid (l.length=n):=hn
 clear h hok hn
 have hmk:=run_make (P:=Tryz.prog) w 30 49 ie _ Tryz.underlying30 hie hie0 .i64 .i64 (n:Int) (n:Int) (by omega) (by omega) (by rw [hie2];omega) (by omega)
 rw [Int.toNat_natCast,hie1] at hmk
 have hG0:RowG (w.alloc (.cells (madeCells (.agg #[.string ⟨#[]⟩,.int .i64 0,.int .i64 0,.int .i64 0]:Value).cells (n*4)) 49)) w.heap.size 4 n zbo ([]:List (List UInt8 × Int × Pl)):=RowG.made w _ 4 n _ _
 have hb0:Below w.heap.size w (w.alloc (.cells (madeCells (.agg #[.string ⟨#[]⟩,.int .i64 0,.int .i64 0,.int .i64 0]:Value).cells (n*4)) 49)):=zn3.alloc zn2 _
 have hs0:(w.alloc (.cells (madeCells (.agg #[.string ⟨#[]⟩,.int .i64 0,.int .i64 0,.int .i64 0]:Value).cells (n*4)) 49)).heap.size=w.heap.size+1:=by simp
 generalize w.alloc (.cells (madeCells (.agg #[.string ⟨#[]⟩,.int .i64 0,.int .i64 0,.int .i64 0]:Value).cells (n*4)) 49)=w0 at *
 go_enter Tryz.func23,Tryz.ntmps23
 go_wp2
 go_loopw [13] (fun ix wr=>∃ (i:Nat),i<=n/\ix=.int .i64 (i:Int)/\RowG wr w.heap.size 4 n zbo ((l.map spV).take i)/\Below w.heap.size w wr/\w.heap.size < wr.heap.size) (fun ix _=>n - (RowKit.intOf ix).toNat)
 case atStart=>exact ⟨0,Nat.zero_le _,rfl,hG0,hb0,by omega⟩
 case round=>
  obtain ⟨i,hi,rfl,hRow,hb,hGs⟩:=hrel
  clear hG0 hb0 hs0 hmk
  by_cases hlt:i < n
  ·have hil:i < l.length:=by rw [HN.out];exact hlt
   obtain ⟨b,off,rfl,hbl,hc⟩:=zcL HC.out i hil
   have hko:=HK.out _ (List.getElem_mem hil)
   obtain ⟨q,hq⟩:∃ q,l[i]=q:=⟨_,rfl⟩
   rw [hq] at hc hko
   obtain ⟨nm,hnm⟩:∃ nm:ByteArray,⟨q.1.toArray⟩=nm:=⟨_,rfl⟩
   have hz1:nm.size<=140737488351232:=by rw [<- hnm];show q.1.toArray.size<=_;simpa using hko
   obtain ⟨x,hx⟩:∃ x,q.2.1=x:=⟨_,rfl⟩
   obtain ⟨pl,hpl⟩:∃ x,q.2.2.1=x:=⟨_,rfl⟩
   obtain ⟨pc,hpc⟩:∃ x,q.2.2.2=x:=⟨_,rfl⟩
   have hv:zcy q=[.string nm,.int .i64 x,.int .i64 pl,.int .i64 pc]:=by unfold zcy sV;rw [hnm,hx,hpl,hpc]
   have hv2:zcy (spV q)=[.string nm,.int .i64 x,.int .i64 0,.int .i64 0]:=by
    show [sV q.1,.int .i64 q.2.1,.int .i64 0,.int .i64 0]=_
    unfold sV;rw [hnm,hx]
   rw [hv] at hc
   have HQ:Hid (l[i]=q):=hq
   have HV2:Hid (zcy (spV q)=[.string nm,.int .i64 x,.int .i64 0,.int .i64 0]):=hv2
   clear hq hko hnm hx hpl hpc hv hv2
   obtain ⟨acc,hac⟩:∃ acc,(l.map spV).take i=acc:=⟨_,rfl⟩
   have hla:acc.length=i:=by rw [<- hac];simp [HN.out];omega
   rw [hac] at hRow
   have HAC:Hid ((l.map spV).take i=acc):=hac
   clear hac
   have i1:(i:Int) < (n:Int):=by omega
   have i2:(0:Int)<=(i:Int):=by omega
   have C0:=(hb.cell (p:=⟨b,off+i*4+0,none⟩) hbl).trans (hc 0 _ rfl)
   have C1:=(hb.cell (p:=⟨b,off+i*4+1,none⟩) hbl).trans (hc 1 _ rfl)
   have C2:=(hb.cell (p:=⟨b,off+i*4+2,none⟩) hbl).trans (hc 2 _ rfl)
   have C3:=(hb.cell (p:=⟨b,off+i*4+3,none⟩) hbl).trans (hc 3 _ rfl)
   rw [Nat.add_zero] at C0
   clear hc
   have hal:=(Below.refl wr.heap.size wr).alloc zn2 (.cells #[.string nm,.int .i64 x,.int .i64 pl,.int .i64 pc] 49)
   have hX:=Bn.new wr [.string nm,.int .i64 x,.int .i64 pl,.int .i64 pc] 49 _ rfl
   have hRx:=hRow.on zI hGs hal
   have hbx:=hb.trans (hal.mono hb.size)
   have hGx:=zn4 hGs hal.size
   have hcall:∀ w1,Below w.heap.size w w1->Calls Tryz.prog 24 #[.agg #[.string nm,.int .i64 x,.int .i64 pl,.int .i64 pc]] w1 fun e w'=>e=.returned (.agg #[.string nm,.int .i64 x,.int .i64 0,.int .i64 0])/\Below w1.heap.size w1 w':=fun w1 _=>zkc w1 nm x pl pc hz1
   go_upto_region 5 with fail
   clear C0 C1 C2 C3 hal
   generalize wr.alloc (.cells #[.string nm,.int .i64 x,.int .i64 pl,.int .i64 pc] 49)=wx at *
   obtain ⟨X,hXX⟩:∃ X,wr.heap.size=X:=⟨_,rfl⟩
   rw [hXX] at hX ⊢
   have HXX:Hid (wr.heap.size=X):=hXX
   clear hXX
   have x0:=(hX 0 _ rfl).1
   have x1:=(hX 1 _ rfl).1
   have x2:=(hX 2 _ rfl).1
   have x3:=(hX 3 _ rfl).1
   go_wp2_with (first
    | (go_at_call 24;refine (hcall _ hbx).mono ?_;rintro e w1 ⟨rfl,b1⟩;have hp:zbo (fun b=>w.heap.size < b) w1 (spV q) [.string nm,.int .i64 x,.int .i64 0,.int .i64 0]:=(HV2.out.symm);have hR1:=hRx.on zI hGx b1;obtain ⟨⟨r0,q0⟩,z0⟩:=hR1.1 (i*4+0) (zM hlt (by omega));obtain ⟨⟨r1,q1⟩,z1⟩:=hR1.1 (i*4+1) (zM hlt (by omega));obtain ⟨⟨r2,q2⟩,z2⟩:=hR1.1 (i*4+2) (zM hlt (by omega));obtain ⟨⟨r3,q3⟩,z3⟩:=hR1.1 (i*4+3) (zM hlt (by omega));rw [Nat.add_zero] at q0 z0)
    | fail)
   have hP:=hR1.put zI (x:=spV q) (cs:=[.string nm,.int .i64 x,.int .i64 0,.int .i64 0]) (by rw [hla];exact hlt) rfl hp
   rw [hla] at hP
   have hb2:=zx [.string nm,.int .i64 x,.int .i64 0,.int .i64 0] w1 w.heap.size (i*4) (hbx.trans (b1.mono (Nat.le_of_lt hGx))) zn2
   have hs2:w.heap.size < (zV w1 w.heap.size (i*4) [.string nm,.int .i64 x,.int .i64 0,.int .i64 0]).heap.size:=by rw [za7];exact zn4 hGx b1.size
   have hac2:(l.map spV).take (i+1)=acc++[spV q]:=by
    rw [List.take_succ_eq_append_getElem (by simp [HN.out];omega),HAC.out]
    simp [HQ.out]
   clear x0 r0 q0 z0 x1 r1 q1 z1 x2 r2 q2 z2 x3 r3 q3 z3 hR1 hRx hp
   go_wp2
   go_roundw
   case rel=>exact ⟨i+1,hlt,by go_num,by rw [hac2];exact hP,hb2,hs2⟩
   case measure=>simp [RowKit.intOf];omega
  ·have i1:¬ (i:Int) < (n:Int):=by omega
   have hin:i=n:=by omega
   have hfull:(l.map spV).take i=l.map spV:=List.take_of_length_le (by simp [HN.out];omega)
   rw [hfull] at hRow
   have hrd:=hRow.rd zI hGs (by simp [HN.out]) (by unfold maxLen;omega)
   go_wp2
   go_ret
   exact ⟨_,rfl,hrd,hb⟩
abbrev Fo:=(d:Nat) × List (St d)
abbrev Pd:=(Nat × Nat) × Fo
def pdA (p:Pd):Addr:=⟨p.1.1,p.1.2,none⟩
def pdV (p:Pd):Value:=.pointer (some (pdA p))
def zmP (B:Nat) (w:World) (x:Fo) (v:Value):Prop:=RdK (fun b=>B<=b) w 11 (rSt x.1 (fun b=>B<=b) w) (x.2.map (stS x.1)) v
structure Agr (X:Nat->Prop) (P:List Pd) (w w':World):Prop where
 size:w.heap.size<=w'.heap.size
 block:∀ b,b < w.heap.size->¬ X b->(∀ p∈P,p.1.1≠b)->w'.heap[b]?=w.heap[b]?
 cell:∀ b o,b < w.heap.size->¬ X b->(∀ p∈P,p.1≠(b,o))->w'.cell? ⟨b,o,none⟩=w.cell? ⟨b,o,none⟩
theorem Agr.refl (X:Nat->Prop) (P:List Pd) (w:World):Agr X P w w:=⟨Nat.le_refl _,fun _ _ _ _=>rfl,fun _ _ _ _ _=>rfl⟩
def Wnd (B:Nat) (X:Nat->Prop) (P:List Pd) (w:World) (R:World->Prop):Prop:=∀ w',Agr X P w w'->(∀ p∈P,∃ v,w'.cell? (pdA p)=some v/\zmP B w' p.2 v)->R w'
theorem Wnd.end {B:Nat}{X:Nat->Prop}{w:World}{R:World->Prop}(h:Wnd B X [] w R):R w:=h w (Agr.refl _ _ _) (fun p hp=>by cases hp)
theorem Wnd.move {B:Nat}{X X':Nat->Prop}{P:List Pd}{w w1:World}{R:World->Prop}(h:Wnd B X P w R) (hs:w.heap.size<=w1.heap.size) (hX:∀ b,X' b->X b∨w.heap.size<=b) (hb:∀ b,b < w.heap.size->¬ X b->w1.heap[b]?=w.heap[b]?):Wnd B X' P w1 R:=fun w' hA hr=>by
 have nx:∀ b,b < w.heap.size->¬ X b->¬ X' b:=fun b hl hn q=>by
  rcases hX b q with h|h
  ·exact hn h
  ·omega
 exact h w' ⟨zn5 hs hA.size,fun b hl hn hp=>(hA.block b (zn4 hl hs) (nx b hl hn) hp).trans (hb b hl hn),fun b o hl hn hp=>(hA.cell b o (zn4 hl hs) (nx b hl hn) hp).trans (World.cell?_of_block (w:=w) (a:=⟨b,o,none⟩) (hb b hl hn))⟩ hr
theorem Wnd.zero {B:Nat}{X:Nat->Prop}{P:List Pd}{a:Nat × Nat}{l:List (St 0)}{w:World}{R:World->Prop}(h:Wnd B X (P++[(a,⟨0,l⟩)]) w R):Wnd B X (P++[(a,(⟨1,[]⟩:Fo))]) w R:=fun w' hA hr=>by
 cases l with
 | cons x _=>exact Empty.elim x
 | nil=>
  refine h w' ⟨hA.size,fun b hl hn hp=>hA.block b hl hn (fun p hp'=>?_),fun b o hl hn hp=>hA.cell b o hl hn (fun p hp'=>?_)⟩ (fun p hp=>?_)
  ·rcases List.mem_append.1 hp' with h|h
   ·exact hp p (List.mem_append_left _ h)
   ·have:p=(a,(⟨1,[]⟩:Fo)):=by simpa using h
    subst this
    exact hp (a,(⟨0,[]⟩:Fo)) (List.mem_append_right _ List.mem_cons_self)
  ·rcases List.mem_append.1 hp' with h|h
   ·exact hp p (List.mem_append_left _ h)
   ·have:p=(a,(⟨1,[]⟩:Fo)):=by simpa using h
    subst this
    exact hp (a,(⟨0,[]⟩:Fo)) (List.mem_append_right _ List.mem_cons_self)
  ·rcases List.mem_append.1 hp with h|h
   ·exact hr p (List.mem_append_left _ h)
   ·have:p=(a,(⟨0,[]⟩:Fo)):=by simpa using h
    subst this
    obtain ⟨v,h1,a1,cap,h2,h3,h4,_⟩:=hr (a,(⟨1,[]⟩:Fo)) (List.mem_append_right _ List.mem_cons_self)
    exact ⟨v,h1,a1,cap,h2,h3,h4,fun i hi=>absurd hi (by simp)⟩
def zaJ (G d:Nat):Nat->List (St (d+1))->List Pd
 | _,[]=>[]
 | i,t :: l=>((G,i*11+10),⟨d,t.2⟩) :: zaJ G d (i+1) l
theorem zcN {G:Nat}:∀ {i d:Nat}{l:List (St (d+1))}{p:Pd},p∈zaJ G d i l->∃ (j:Nat) (hj:j < l.length),p=((G,(i+j)*11+10),⟨d,l[j].2⟩)
 | i,d,[],p,h=>by cases h
 | i,d,t :: l,p,h=>by
  rcases List.mem_cons.1 h with rfl|h
  ·exact ⟨0,by simp,rfl⟩
  ·obtain ⟨j,hj,rfl⟩:=zcN h
   exact ⟨j+1,by simpa using hj,by rw [show i+1+j=i+(j+1) by omega];rfl⟩
theorem zkW {G:Nat}:∀ {i d:Nat}{l:List (St (d+1))}(j:Nat) (hj:j < l.length),(((G,(i+j)*11+10),⟨d,l[j].2⟩):Pd)∈zaJ G d i l
 | i,d,[],j,hj=>by simp at hj
 | i,d,t :: l,0,_=>List.mem_cons_self
 | i,d,t :: l,j+1,hj=>by
  have:=zkW (G:=G) (i:=i+1) (d:=d) (l:=l) j (by simpa using hj)
  rw [show i+1+j=i+(j+1) by omega] at this
  exact List.mem_cons_of_mem _ this
theorem zdf {G:Nat}:∀ (i d:Nat) (l:List (St (d+1))),(zaJ G d i l).length=l.length
 | i,d,[]=>rfl
 | i,d,t :: l=>congrArg (· + 1) (zdf (i+1) d l)
theorem zh0 {G:Nat}:∀ (i d:Nat) (l:List (St (d+1))) (j:Nat) (hj:j < l.length) (hj':j < (zaJ G d i l).length),(zaJ G d i l)[j]=(((G,(i+j)*11+10),⟨d,l[j].2⟩):Pd)
 | i,d,[],j,hj,_=>by simp at hj
 | i,d,t :: l,0,_,_=>rfl
 | i,d,t :: l,j+1,hj,hj'=>by
  have:=zh0 (G:=G) (i+1) d l j (by simpa using hj) (by rw [zdf];simpa using hj)
  rw [show i+1+j=i+(j+1) by omega] at this
  exact this
theorem Wnd.step {B:Nat}{X:Nat->Prop}{P:List Pd}{p:Pd}{w w1:World}{R:World->Prop}{d:Nat}{l:List (St (d+1))}{okO:Nat->Prop}{wO:World}(hp:p.2=⟨d+1,l⟩) (hW:Wnd B X (P++[p]) w R) (hX:∀ b,X b->b < w.heap.size) (hXp:¬ X p.1.1) (hb:Below w.heap.size w w1) (hB:B<=w.heap.size) (pb:p.1.1 < w.heap.size)
  (hnd:∀ q∈P,q.1≠p.1) (hlt:∀ q∈P,q.1.1 < w.heap.size) (hc0:∃ v,w.cell? (pdA p)=some v) (hu:RowG w1 w.heap.size 11 l.length (rHf d okO wO) l) (hG:w.heap.size < w1.heap.size) (hm:l.length<=maxLen) :
  Wnd B X (P++zaJ w.heap.size d 0 l) (w1.setCell (pdA p) (.slice (some ⟨w.heap.size,0,none⟩) l.length l.length)) R:=by
 intro w' hA hr
 obtain ⟨u,hu'⟩:∃ u,Value.slice (some ⟨w.heap.size,0,none⟩) l.length l.length=u:=⟨_,rfl⟩
 rw [hu'] at hA
 have hs2:(w1.setCell (pdA p) u).heap.size=w1.heap.size:=by simp
 have hsw:=hb.size
 have hA1:=hA.size
 rw [hs2] at hA1
 have hkb:∀ q∈zaJ w.heap.size d 0 l,q.1.1=w.heap.size:=fun q hq=>by
  obtain ⟨j,hj,rfl⟩:=zcN hq
  rfl
 have nofar:∀ b o,b < w.heap.size->¬ X b->(∀ q∈P++[p],q.1≠(b,o))->w'.cell? ⟨b,o,none⟩=w.cell? ⟨b,o,none⟩:=fun b o hl hn hq=>by
  have h1:=hA.cell b o (by rw [hs2];omega) hn (fun q hq'=>by
   rcases List.mem_append.1 hq' with h|h
   ·exact hq q (List.mem_append_left _ h)
   ·intro e
    have:=hkb q h
    rw [e] at this
    have:b=w.heap.size:=this
    omega)
  rw [h1]
  have hne:p.1≠(b,o):=hq p (List.mem_append_right _ List.mem_cons_self)
  have h2:(w1.setCell (pdA p) u).cell? ⟨b,o,none⟩=w1.cell? ⟨b,o,none⟩:=World.cell?_setCell_other w1 (pdA p) ⟨b,o,none⟩ u (fun e=>hne (by
   unfold pdA at e
   simp only [Addr.mk.injEq,and_true] at e
   exact Prod.ext e.1 e.2))
  rw [h2]
  exact hb.cell (p:=⟨b,o,none⟩) hl
 refine hW w' ⟨by omega,fun b hl hn hq=>?_,nofar⟩ (fun q hq=>?_)
 ·have h1:=hA.block b (by rw [hs2];omega) hn (fun q hq'=>by
   rcases List.mem_append.1 hq' with h|h
   ·exact hq q (List.mem_append_left _ h)
   ·rw [hkb q h];omega)
  rw [h1,Below.heap_setCell _ _ _ _ (fun e=>hq p (List.mem_append_right _ List.mem_cons_self) e.symm)]
  exact hb.block b hl
 ·rcases List.mem_append.1 hq with h|h
  ·exact hr q (List.mem_append_left _ h)
  ·have:q=p:=by simpa using h
   subst this
   have hcell:w'.cell? (pdA q)=some u:=by
    have h1:=hA.cell q.1.1 q.1.2 (by rw [hs2];omega) hXp (fun q' hq'=>by
     rcases List.mem_append.1 hq' with h|h
     ·exact fun e=>hnd q' h e
     ·intro e
      have:=hkb q' h
      rw [e] at this
      have:q.1.1=w.heap.size:=this
      omega)
    show w'.cell? ⟨q.1.1,q.1.2,none⟩=_
    rw [h1]
    obtain ⟨v,hv⟩:=hc0
    exact zas ((hb.cell (p:=pdA q) pb).trans hv)
   refine ⟨u,hcell,?_⟩
   rw [hp]
   subst hu'
   refine ⟨some ⟨w.heap.size,0,none⟩,l.length,by rw [List.length_map],by rw [List.length_map];exact Nat.le_refl _,hm,fun i hi=>?_⟩
   have hil:i < l.length:=by simpa using hi
   obtain ⟨cs,hk,⟨so,si,rfl,hso,hsi⟩,hcs⟩:=hu.2 i hil
   have hkid:=hr _ (List.mem_append_right _ (zkW (G:=w.heap.size) (i:=0) i hil))
   obtain ⟨v,hv1,hv2⟩:=hkid
   refine ⟨w.heap.size,0,hdV (stH l[i].1) so v,rfl,hB,by omega,rfl,?_,fun j x hx=>?_⟩
   ·have e1:(l.map (stS (d+1)))[i]=stS (d+1) l[i]:=by simp
    rw [e1]
    refine ⟨so,v,rfl,?_,hv2⟩
    refine hso.stay zB (fun b hb' hl=>⟨by omega,?_⟩)
    have h1:=hA.block b (by rw [hs2];exact hl) (fun q=>by have:=hX b q;omega) (fun q' hq'=>by
     rcases List.mem_append.1 hq' with h|h
     ·have:=hlt q' h;omega
     ·rw [hkb q' h];omega)
    rw [h1]
    exact Below.heap_setCell _ _ _ _ (fun e=>by have e2:b=q.1.1:=e;omega)
   ·rw [Nat.zero_add]
    by_cases hj:j=10
    ·subst hj
     have:x=v:=by
      have:(hdV (stH l[i].1) so v)[10]?=some v:=rfl
      rw [this] at hx
      exact (Option.some.inj hx).symm
     subst this
     rw [Nat.zero_add] at hv1
     exact hv1
    ·have hj11:j < 11:=(List.getElem?_eq_some_iff.1 hx).1
     have hx':(hdV (stH l[i].1) so si)[j]?=some x:=by
      rw [<- hx]
      match j,hj11,hj with
      | 0,_,_=>rfl
      | 1,_,_=>rfl
      | 2,_,_=>rfl
      | 3,_,_=>rfl
      | 4,_,_=>rfl
      | 5,_,_=>rfl
      | 6,_,_=>rfl
      | 7,_,_=>rfl
      | 8,_,_=>rfl
      | 9,_,_=>rfl
      | 10,_,h=>exact absurd rfl h
     have h1:=hA.cell w.heap.size (i*11+j) (by rw [hs2];exact hG) (fun q=>by have:=hX _ q;omega) (fun q' hq'=>by
      rcases List.mem_append.1 hq' with h|h
      ·intro e;have:=hlt q' h;rw [e] at this;exact absurd this (by simp)
      ·obtain ⟨j',hj',rfl⟩:=zcN h
       intro e
       have:(0+j')*11+10=i*11+j:=congrArg Prod.snd e
       omega)
     rw [h1,World.cell?_setCell_far _ _ _ _ (by show q.1.1≠w.heap.size;omega)]
     exact hcs j x hx'
def szL:(d:Nat)->List (St d)->Nat
 | 0,_=>1
 | d+1,l=>(l.map (fun t=>szL d t.2)).sum+1
def szF (p:Pd):Nat:=szL p.2.1 p.2.2
theorem zim:∀ (d:Nat) (l:List (St d)),1<=szL d l
 | 0,_=>Nat.le_refl _
 | d+1,l=>by
  show 1<=(l.map (fun t=>szL d t.2)).sum+1
  omega
theorem zjZ {G:Nat}:∀ (i d:Nat) (l:List (St (d+1))),((zaJ G d i l).map szF).sum+1=szL (d+1) l
 | i,d,[]=>rfl
 | i,d,t :: l=>by
  have:=zjZ (G:=G) (i+1) d l
  have e1:szL (d+1) l=(l.map (fun t=>szL d t.2)).sum+1:=rfl
  have e2:szL (d+1) (t :: l)=(szL d t.2+(l.map (fun t=>szL d t.2)).sum)+1:=rfl
  have e3:((zaJ G d i (t :: l)).map szF).sum=szL d t.2+((zaJ G d (i+1) l).map szF).sum:=rfl
  omega
def zkX:(d:Nat)->St d->Prop
 | 0,t=>Empty.elim t
 | d+1,t=>zjY t.1/\t.2.length<=100000/\∀ x∈t.2,zkX d x
def zhn (x:Fo):Prop:=x.2.length<=100000/\∀ t∈x.2,zkX x.1 t
def POk (N:Nat) (X:Nat->Prop) (w:World) (p:Pd):Prop:=
 N<=p.1.1/\p.1.1 < w.heap.size/\w.frozen? (pdA p)=false/\¬ X p.1.1/\zhn p.2/\∃ u,w.cell? (pdA p)=some u/\RdK (fun b=>b < N) w 11 (rSt p.2.1 (fun b=>b < N) w) p.2.2 u
structure PInv (N:Nat) (R:World->Prop) (X:Nat->Prop) (w:World) (v:Value) (P:List Pd):Prop where
 row:w.ownsRow N 61 1 v P.length (P.map pdV)
 ok:∀ p∈P,POk N X w p
 nd:P.Pairwise (fun a b=>a.1≠b.1)
 wnd:Wnd (N+2) X P w R
 x1:∀ b,X b->b < w.heap.size/\N<=b
 x2:∀ g,v.ownBlock=some g->X g
 big:N+2<=w.heap.size
theorem zes {w:World}{base e:Nat}{v:Value}{xs:List Value}{x:Value}{n:Nat}(hn:n=xs.length) (h:w.ownsRow base e 1 v (n+1) (xs++[x])):∃ g cap,v=.slice (some ⟨g,0,none⟩) (n+1) cap/\n+1<=cap/\cap<=maxLen/\base<=g/\g < w.heap.size/\
  w.cell? ⟨g,n,none⟩=some x/\w.ownsRow base e 1 (.slice (some ⟨g,0,none⟩) n cap) n xs:=by
 subst hn
 have hc:=fun g=>World.ownsRow.cells h (g:=g)
 rcases h.2 with ⟨_,h2⟩|⟨g,cap,cur,rfl,hb,hg,hnc,hcm,hcs,htake⟩
 ·omega
 ·have h1:=hc g rfl xs.length x (by simp)
  rw [show (⟨g,0,none⟩:Addr).add xs.length=⟨g,xs.length,none⟩ by unfold Addr.add;split<;>simp_all] at h1
  refine ⟨g,cap,rfl,hnc,hcm,hb,(Array.getElem?_eq_some_iff.1 hg).1,h1,by simp,.inr ⟨g,cap,cur,rfl,hb,hg,by omega,hcm,hcs,?_⟩⟩
  have h3:=congrArg (List.take xs.length) htake
  rw [List.take_take] at h3
  simp only [Nat.mul_one] at h3 ⊢
  rw [Nat.min_eq_left (by omega),List.take_left' (by simp)] at h3
  exact h3
theorem zgD {w:World}{base e:Nat}{v:Value}(h:w.ownsRow base e 1 v 0 []):∃ a cap,v=.slice a 0 cap:=by
 rcases h.2 with ⟨h1,_⟩|⟨g,cap,cur,rfl,_⟩
 ·exact ⟨_,_,h1⟩
 ·exact ⟨_,_,rfl⟩
theorem PInv.deep {N:Nat}{R:World->Prop}{X:Nat->Prop}{w:World}{v:Value}{P:List Pd}{p:Pd}(h:PInv N R X w v (P++[p])):∃ (d:Nat) (l:List (St (d+1))),PInv N R X w v (P++[(p.1,⟨d+1,l⟩)])/\szF p=szL (d+1) l:=by
 obtain ⟨a,d,l⟩:=p
 cases d with
 | succ d=>exact ⟨d,l,h,rfl⟩
 | zero=>
  cases l with
  | cons x _=>exact Empty.elim x
  | nil=>
   refine ⟨0,[],⟨?_,fun q hq=>?_,?_,h.wnd.zero,h.x1,h.x2,h.big⟩,rfl⟩
   ·have:=h.row
    rw [List.map_append,List.length_append] at this ⊢
    exact this
   ·rcases List.mem_append.1 hq with hq|hq
    ·exact h.ok q (List.mem_append_left _ hq)
    ·have e:q=(a,(⟨1,[]⟩:Fo)):=by simpa using hq
     subst e
     obtain ⟨h1,h2,h3,h4,h5,u,h6,a1,cap,h7,h8,h9,_⟩:=h.ok (a,(⟨0,[]⟩:Fo)) (List.mem_append_right _ List.mem_cons_self)
     exact ⟨h1,h2,h3,h4,⟨by simp,fun t ht=>by cases ht⟩,u,h6,a1,cap,h7,h8,h9,fun i hi=>absurd hi (by simp)⟩
   ·have:=h.nd
    rw [List.pairwise_append] at this ⊢
    refine ⟨this.1,List.pairwise_singleton _ _,fun x hx y hy=>?_⟩
    have e:y=(a,(⟨1,[]⟩:Fo)):=by simpa using hy
    subst e
    exact this.2.2 x hx (a,(⟨0,[]⟩:Fo)) List.mem_cons_self
theorem ziH:∀ P:List Pd,P.length<=(P.map szF).sum
 | []=>by simp
 | p :: P=>by
  have:=ziH P
  have:=zim p.2.1 p.2.2
  show P.length+1<=szL p.2.1 p.2.2+(P.map szF).sum
  omega
theorem zgW {G d:Nat}:∀ (i:Nat) (l:List (St (d+1))),(zaJ G d i l).Pairwise (fun a b=>a.1≠b.1)
 | i,[]=>List.Pairwise.nil
 | i,t :: l=>by
  refine List.Pairwise.cons (fun q hq=>?_) (zgW (i+1) l)
  obtain ⟨j,hj,rfl⟩:=zcN hq
  intro e
  have:i*11+10=(i+1+j)*11+10:=congrArg Prod.snd e
  omega
theorem PInv.step {N:Nat}{R:World->Prop}{X:Nat->Prop}{w w1 w2:World}{v v2:Value}{P:List Pd}{a:Nat × Nat}{d:Nat}{l:List (St (d+1))}{g:Nat}(h:PInv N R X w v (P++[(a,⟨d+1,l⟩)])) (hb:Below w.heap.size w w1) (hu:RowG w1 w.heap.size 11 l.length (rHf d (fun b=>b < N) w) l) (hG:w.heap.size < w1.heap.size) (hv:v.ownBlock=some g)
  (hrow:w2.ownsRow N 61 1 v2 (P++zaJ w.heap.size d 0 l).length ((P++zaJ w.heap.size d 0 l).map pdV)) (hgr:(w1.setCell ⟨a.1,a.2,none⟩ (.slice (some ⟨w.heap.size,0,none⟩) l.length l.length)).grownBy w2 (some g)) (hl2:∀ g',v2.ownBlock=some g'->g=g'∨w1.heap.size<=g') (hl3:∀ g',v2.ownBlock=some g'->g' < w2.heap.size) :
  PInv N R (fun b=>X b∨v2.ownBlock=some b) w2 v2 (P++zaJ w.heap.size d 0 l):=by
 have hN:=h.big
 obtain ⟨U,hU⟩:∃ U,Value.slice (some ⟨w.heap.size,0,none⟩) l.length l.length=U:=⟨_,rfl⟩
 rw [hU] at hgr
 have hs1:(w1.setCell ⟨a.1,a.2,none⟩ U).heap.size=w1.heap.size:=by simp
 have hXg:=h.x2 g hv
 obtain ⟨g1,g2⟩:=h.x1 g hXg
 have hpo:=h.ok (a,⟨d+1,l⟩) (List.mem_append_right _ List.mem_cons_self)
 obtain ⟨p1,p2,p3,p4,p5,u0,p6,p7⟩:=hpo
 have p1:N<=a.1:=p1
 have p2:a.1 < w.heap.size:=p2
 have p4:¬ X a.1:=p4
 have hag:a.1≠g:=fun e=>p4 (e ▸ hXg)
 have hsw:=hb.size
 have hgs:=hgr.size
 rw [hs1] at hgs
 have far:∀ b,b < w1.heap.size->b≠g->w2.heap[b]?=(w1.setCell ⟨a.1,a.2,none⟩ U).heap[b]?:=fun b hl hn=>hgr.block b (by rw [hs1];exact hl) (fun e=>hn (Option.some.inj e))
 have far2:∀ b,b < w1.heap.size->b≠g->b≠a.1->w2.heap[b]?=w1.heap[b]?:=fun b hl hn hn2=>(far b hl hn).trans (Below.heap_setCell _ _ _ _ (fun e=>hn2 e))
 have far3:∀ b,b < w.heap.size->b≠g->b≠a.1->w2.heap[b]?=w.heap[b]?:=fun b hl hn hn2=>(far2 b (by omega) hn hn2).trans (hb.block b hl)
 have low:∀ b,b < N->b < w.heap.size->b < N/\w2.heap[b]?=w.heap[b]?:=fun b hbN hl=>⟨hbN,far3 b hl (by omega) (by omega)⟩
 have hnd:=List.pairwise_append.1 h.nd
 have hne:∀ q∈P,q.1≠a:=fun q hq=>hnd.2.2 q hq (a,⟨d+1,l⟩) List.mem_cons_self
 have nX:∀ b,b < w1.heap.size->¬ X b->¬ (X b∨v2.ownBlock=some b):=fun b hl hn q=>by
  rcases q with q|q
  ·exact hn q
  ·rcases hl2 b q with e|e
   ·exact hn (e ▸ hXg)
   ·omega
 refine ⟨hrow,fun q hq=>?_,?_,?_,fun b q=>?_,fun g' hg'=>.inr hg',by omega⟩
 ·rcases List.mem_append.1 hq with hq|hq
  ·obtain ⟨q1,q2,q3,q4,q5,u,q6,q7⟩:=h.ok q (List.mem_append_left _ hq)
   have hqg:q.1.1≠g:=fun e=>q4 (e ▸ hXg)
   have hblk:=far q.1.1 (by omega) hqg
   have hne2:(⟨a.1,a.2,none⟩:Addr)≠pdA q:=fun e=>hne q hq (by
    unfold pdA at e
    simp only [Addr.mk.injEq,and_true] at e
    exact Prod.ext e.1.symm e.2.symm)
   refine ⟨q1,by omega,?_,nX _ (by omega) q4,q5,u,?_,q7.stay (zp _) low⟩
   ·rw [show pdA q=⟨q.1.1,q.1.2,none⟩ from rfl] at q3 ⊢
    rw [zaw hblk,World.frozen?_setCell,hb.frozen (p:=⟨q.1.1,q.1.2,none⟩) q2]
    exact q3
   ·rw [World.cell?_of_block (w:=w1.setCell ⟨a.1,a.2,none⟩ U) (a:=pdA q) hblk,World.cell?_setCell_other w1 _ _ U hne2,hb.cell (p:=pdA q) q2]
    exact q6
  ·obtain ⟨j,hj,rfl⟩:=zcN hq
   obtain ⟨cs,hk,⟨so,si,rfl,hso,hsi⟩,hcs⟩:=hu.2 j hj
   have hGg:w.heap.size≠g:=by omega
   have hblk:=far2 w.heap.size hG hGg (by omega)
   have hc10:=hcs 10 si rfl
   have hfr:=(hu.1 (j*11+10) (zM hj (by omega))).2
   refine ⟨by show N<=w.heap.size;omega,by show w.heap.size < _;omega,?_,nX _ hG (fun q=>absurd (show w.heap.size < w.heap.size from (h.x1 _ q).1) (Nat.lt_irrefl _)),⟨(p5.2 _ (List.getElem_mem hj)).2.1,(p5.2 _ (List.getElem_mem hj)).2.2⟩,si,?_,hsi.stay (zp d) low⟩
   ·show w2.frozen? ⟨w.heap.size,(0+j)*11+10,none⟩=false
    rw [Nat.zero_add,zaw hblk]
    exact hfr
   ·show w2.cell? ⟨w.heap.size,(0+j)*11+10,none⟩=some si
    rw [Nat.zero_add,World.cell?_of_block (w:=w1) (a:=⟨w.heap.size,j*11+10,none⟩) hblk]
    exact hc10
 ·rw [List.pairwise_append]
  refine ⟨hnd.1,zgW 0 l,fun q hq k hk=>?_⟩
  obtain ⟨j,hj,rfl⟩:=zcN hk
  intro e
  have h1:=(h.ok q (List.mem_append_left _ hq)).2.1
  rw [e] at h1
  exact absurd h1 (by simp)
 ·have hst:=Wnd.step (p:=(a,⟨d+1,l⟩)) rfl h.wnd (fun b q=>(h.x1 b q).1) p4 hb hN p2 (fun q hq=>hne q hq) (fun q hq=>(h.ok q (List.mem_append_left _ hq)).2.1) ⟨u0,p6⟩ hu hG (by unfold maxLen;have:=p5.1;simp only at this;omega)
  rw [hU] at hst
  refine hst.move (by show (w1.setCell ⟨a.1,a.2,none⟩ U).heap.size<=_;rw [hs1];exact hgs) (fun b q=>?_) (fun b hl hn=>?_)
  ·rcases q with q|q
   ·exact .inl q
   ·rcases hl2 b q with e|e
    ·exact .inl (e ▸ hXg)
    ·right
     show (w1.setCell ⟨a.1,a.2,none⟩ U).heap.size<=b
     rw [hs1];exact e
  ·have hl':b < w1.heap.size:=by
    have:b < (w1.setCell ⟨a.1,a.2,none⟩ U).heap.size:=hl
    rw [hs1] at this;exact this
   exact far b hl' (fun e=>hn (e ▸ hXg))
 ·rcases q with q|q
  ·have:=h.x1 b q
   exact ⟨by omega,this.2⟩
  ·refine ⟨hl3 b q,?_⟩
   rcases hl2 b q with e|e
   ·omega
   ·omega
def eqL {α β:Type}(f:α->β->Bool):List α->List β->Bool
 | [],[]=>true
 | a :: l,b :: m=>f a b && eqL f l m
 | [],_ :: _=>false
 | _ :: _,[]=>false
theorem zci {α β:Type}(f:α->β->Bool):∀ (l:List α) (m:List β),l.length≠m.length->eqL f l m=false
 | [],[],h=>absurd rfl h
 | [],_ :: _,_=>rfl
 | _ :: _,[],_=>rfl
 | a :: l,b :: m,h=>by
  show (f a b && eqL f l m)=false
  rw [zci f l m (fun e=>h (by simp [e])),Bool.and_false]
theorem zcB {α β:Type}(f:α->β->Bool) {l:List α}{m:List β}{i:Nat}(h:i < l.length) (h':i < m.length):eqL f (l.drop i) (m.drop i)=(f l[i] m[i] && eqL f (l.drop (i+1)) (m.drop (i+1))):=by
 rw [List.drop_eq_getElem_cons h,List.drop_eq_getElem_cons h'];rfl
theorem zbO {α β:Type}(f:α->β->Bool) {l:List α}{m:List β}{i:Nat}(h:l.length<=i) (h':m.length<=i):eqL f (l.drop i) (m.drop i)=true:=by
 rw [List.drop_of_length_le h,List.drop_of_length_le h'];rfl
theorem zfU {α β α' β':Type}(f:α->β->Bool) (g:α'->β'->Bool) (u:α->α') (v:β->β'):∀ (l:List α) (m:List β),(∀ a∈l,∀ b∈m,g (u a) (v b)=f a b)->eqL g (l.map u) (m.map v)=eqL f l m
 | [],[],_=>rfl
 | [],_ :: _,_=>rfl
 | _ :: _,[],_=>rfl
 | a :: l,b :: m,h=>by
  show (g (u a) (v b) && eqL g (l.map u) (m.map v))=(f a b && eqL f l m)
  rw [h a (by simp) b (by simp),zfU f g u v l m (fun x hx y hy=>h x (by simp [hx]) y (by simp [hy]))]
def zbR (x y:Sx):Bool:=zaL x.1 y.1 x.2 y.2
def gX (g:Bool × Sx):Sx:=if g.1=true then g.2 else noX
def sqS (s s':List UInt8 × Sx):Bool:=decide (s.1=s'.1) && zbR s.2 s'.2
def sqO (o o':OnC):Bool:=decide (o.1=o'.1) && (decide (o.2.2.1=o'.2.2.1) && (decide (o.2.2.2.2=o'.2.2.2.2) && (zbR (gX o.2.1) (gX o'.2.1) && eqL sqS o.2.2.2.1 o'.2.2.2.1)))
def sqH (h h':HdC):Bool:=decide (h.1.1=h'.1.1) && (decide (h.1.2=h'.1.2) && (decide (h.2.1.1=h'.2.1.1) && (decide (h.2.1.2=h'.2.1.2) && (decide (h.2.2.1.1=h'.2.2.1.1) && (decide (h.2.2.1.2=h'.2.2.1.2) && (decide (h.2.2.2.1.1=h'.2.2.2.1.1) && (decide (h.2.2.2.1.2=h'.2.2.2.1.2) && eqL sqO h.2.2.2.2 h'.2.2.2.2)))))))
def sqT:(d e:Nat)->St d->St e->Bool
 | 0,_,t,_=>Empty.elim t
 | _+1,0,_,u=>Empty.elim u
 | d+1,e+1,t,u=>sqH t.1 u.1 && eqL (sqT d e) t.2 u.2
def sqA (d e:Nat) (t:St (d+1)) (u:St (e+1)):Bool:=sqH t.1 u.1
def sqV (v v':List UInt8 × Int × Pl):Bool:=decide (v=v')
def sqC (d e:Nat) (c:ChG d) (c':ChG e):Bool:=decide (c.1.1=c'.1.1) && (decide (c.2.1=c'.2.1) && (decide (c.1.2=c'.1.2) && (eqL sqV c.2.2.1 c'.2.2.1 && eqL (sqT d e) c.2.2.2 c'.2.2.2)))
theorem gdX (g:Bool × Sx):gdV g=exX (gX g):=by
 unfold gdV gX
 split
 ·rfl
 ·rfl
theorem zaK (a b:ByteArray):(a.toList == b.toList)=decide (bl a=bl b):=by
 rw [Bool.eq_iff_iff,beq_iff_eq,decide_eq_true_eq,ByteArray.toList_eq,ByteArray.toList_eq]
theorem zen (a b:Int):(a == b)=decide (a=b):=by rw [Bool.eq_iff_iff,beq_iff_eq,decide_eq_true_eq]
theorem zgL (a b:Bool):(a == b)=decide (a=b):=by rw [Bool.eq_iff_iff,beq_iff_eq,decide_eq_true_eq]
theorem zer (a b:Pl):decide (a=b)=((a.1 == b.1) && (a.2 == b.2)):=by
 obtain ⟨a1,a2⟩:=a
 obtain ⟨b1,b2⟩:=b
 rw [Bool.eq_iff_iff,decide_eq_true_eq,Bool.and_eq_true,beq_iff_eq,beq_iff_eq,Prod.mk.injEq]
