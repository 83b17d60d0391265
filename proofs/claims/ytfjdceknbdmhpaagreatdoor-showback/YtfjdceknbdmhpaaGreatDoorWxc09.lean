import Derived.Test.YtfjdceknbdmhpaaGreatDoorWxc08
import Derived.Lib.FrozenHead
import Derived.Lib.OthersKept
import Derived.Shelf.Strings.Repeat
import Derived.Test.YtfjdceknbdmhpaaGreatDoorRows
import Derived.Shelf.LaysM
import Derived.Shelf.Strconv.Itoa4
import Derived.Test.YtfjdceknbdmhpaaGreatDoorWxc07
set_option maxRecDepth 100000
set_option maxHeartbeats 32000000
namespace Go.Proofs.YtfjdceknbdmhpaaGreatDoor
open Go.RowKit Go.Lib
set_option linter.unusedSimpArgs false
set_option linter.unusedVariables false
attribute [local go_sem ↓] Go.wp_at_zero Go.wp_at_succ
theorem Tryz.infoESt:(Tryz.prog.info? 55).map (fun i=>(i.zero,i.size,i.bytes))=some (some (.agg #[.string ⟨#[]⟩,.int .i64 0,.int .i64 0,.bool false,.bool false,.string ⟨#[]⟩,.string ⟨#[]⟩,.int .i64 0,.int .i64 0,.slice none 0 0,.slice none 0 0]),11,136):=by kernel_rfl
def stH (h:HdC):HdC:=((h.1.1,(0,0)),h.2.1,h.2.2.1,h.2.2.2.1,h.2.2.2.2.map stO)
def HdOk (h:HdC):Prop:=h.1.1.length<=140737488351232/\h.2.2.1.1.length<=140737488351232/\h.2.2.1.2.length<=140737488351232/\h.2.2.2.2.length<=100000/\∀ o∈h.2.2.2.2,OnOk o
def rHf (d:Nat) (okO:Nat->Prop) (w0:World) (ok:Nat->Prop) (w:World) (t:St (d+1)) (cs:List Value):Prop:=∃ so si,cs=hdV (stH t.1) so si/\RdK ok w 6 (rOn ok w) (t.1.2.2.2.2.map stO) so/\RdK okO w0 11 (rSt d okO w0) t.2 si
theorem kp_hf (d:Nat) (okO:Nat->Prop) (w0:World):Kp (rHf d okO w0):=fun _ _ _ _ _ _ ⟨so,si,h,h1,h2⟩ hk=>⟨so,si,h,h1.stay kp_on hk,h2⟩
theorem stQ_at {ok:Nat->Prop}{w:World}{d:Nat}{l:List (St (d+1))}{a:Option Addr}{n cap:Nat}(h:RdK ok w 11 (rSt (d+1) ok w) l (.slice a n cap)) (j:Nat) (hj:j < l.length):∃ b off p1 p3 p4 p6,a=some ⟨b,off,none⟩/\b < w.heap.size/\RdK ok w 6 (rOn ok w) l[j].1.2.2.2.2 (.slice p1 l[j].1.2.2.2.2.length p3)/\RdK ok w 11 (rSt d ok w) l[j].2 (.slice p4 l[j].2.length p6)/\∀ i u,(hdV l[j].1 (.slice p1 l[j].1.2.2.2.2.length p3) (.slice p4 l[j].2.length p6))[i]?=some u->w.cell? ⟨b,off+j*11+i,none⟩=some u:=by
 obtain ⟨a1,cap1,he,h1,h2,h3⟩:=h
 simp only [Value.slice.injEq] at he
 obtain ⟨rfl,rfl,rfl⟩:=he
 obtain ⟨b,off,cs,ha,_,hb,hl,⟨so,si,rfl,hs,hi⟩,hc⟩:=h3 j hj
 obtain ⟨s1,s3,rfl,_⟩:=hs.form
 obtain ⟨s4,s6,rfl,_⟩:=hi.form
 exact ⟨b,off,s1,s3,s4,s6,ha,hb,hs,hi,hc⟩
theorem eachSt_any {d:Nat}{ok:Nat->Prop}{w:World}{l:List (St (d+1))}{v:Value}(h:RdK ok w 11 (rSt (d+1) ok w) l v) (hl:l.length<=100000) (hok:∀ s∈l,HdOk s.1) :
  Calls Tryz.prog 41 #[v,.func (.func 42) #[] #[]] w fun e w'=>e=.returned (.slice (some ⟨w.heap.size,0,none⟩) l.length l.length)/\RowG w' w.heap.size 11 l.length (rHf d ok w) (l)/\Below w.heap.size w w'/\w.heap.size < w'.heap.size:=by
 obtain ⟨ie,hie,hie0,hie1,hie2⟩:=info_parts Tryz.infoESt
 obtain ⟨a,cap,rfl,hlc,hcm⟩:=h.form
 unfold maxLen at hcm
 have HC:=mkHid h
 have HK:=mkHid hok
 obtain ⟨n,hn⟩:∃ n,l.length=n:=⟨_,rfl⟩
 rw [hn] at hlc hl ⊢
 have HN:Hid (l.length=n):=hn
 clear h hok hn
 have hmk:=run_make (P:=Tryz.prog) w 31 55 ie _ Tryz.underlying31 hie hie0 .i64 .i64 (n:Int) (n:Int) (by omega) (by omega) (by rw [hie2];omega) (by omega)
 rw [Int.toNat_natCast,hie1] at hmk
 have hG0:RowG (w.alloc (.cells (madeCells (.agg #[.string ⟨#[]⟩,.int .i64 0,.int .i64 0,.bool false,.bool false,.string ⟨#[]⟩,.string ⟨#[]⟩,.int .i64 0,.int .i64 0,.slice none 0 0,.slice none 0 0]:Value).cells (n*11)) 55)) w.heap.size 11 n (rHf d ok w) ([]:List (St (d+1))):=RowG.made w _ 11 n _ _
 have hb0:Below w.heap.size w (w.alloc (.cells (madeCells (.agg #[.string ⟨#[]⟩,.int .i64 0,.int .i64 0,.bool false,.bool false,.string ⟨#[]⟩,.string ⟨#[]⟩,.int .i64 0,.int .i64 0,.slice none 0 0,.slice none 0 0]:Value).cells (n*11)) 55)):=(Below.refl _ _).alloc Nat.le.refl _
 have hs0:(w.alloc (.cells (madeCells (.agg #[.string ⟨#[]⟩,.int .i64 0,.int .i64 0,.bool false,.bool false,.string ⟨#[]⟩,.string ⟨#[]⟩,.int .i64 0,.int .i64 0,.slice none 0 0,.slice none 0 0]:Value).cells (n*11)) 55)).heap.size=w.heap.size+1:=by simp
 generalize w.alloc (.cells (madeCells (.agg #[.string ⟨#[]⟩,.int .i64 0,.int .i64 0,.bool false,.bool false,.string ⟨#[]⟩,.string ⟨#[]⟩,.int .i64 0,.int .i64 0,.slice none 0 0,.slice none 0 0]:Value).cells (n*11)) 55)=w0 at *
 go_enter Tryz.func41,Tryz.ntmps41
 go_wp2
 go_loopw [13] (fun ix wr=>∃ (i:Nat),i<=n/\ix=.int .i64 (i:Int)/\RowG wr w.heap.size 11 n (rHf d ok w) ((l).take i)/\Below w.heap.size w wr/\w.heap.size < wr.heap.size) (fun ix _=>n - (RowKit.intOf ix).toNat)
 case atStart=>exact ⟨0,Nat.zero_le _,rfl,hG0,hb0,by omega⟩
 case round=>
  obtain ⟨i,hi,rfl,hRow,hb,hGs⟩:=hrel
  clear hG0 hb0 hs0 hmk
  by_cases hlt:i < n
  ·have hil:i < l.length:=by rw [HN.out];exact hlt
   obtain ⟨b,off,p1,p3,p4,p6,rfl,hbl,hOn,hIn,hc⟩:=stQ_at HC.out i hil
   have hko:=HK.out _ (List.getElem_mem hil)
   obtain ⟨t,ht⟩:∃ t,l[i]=t:=⟨_,rfl⟩
   rw [ht] at hOn hIn hc hko
   obtain ⟨m,hm⟩:∃ m,t.1.2.2.2.2.length=m:=⟨_,rfl⟩
   obtain ⟨ni,hni⟩:∃ m,t.2.length=m:=⟨_,rfl⟩
   rw [hm] at hOn hc
   rw [hni] at hIn hc
   obtain ⟨sn,hsn⟩:∃ s:ByteArray,⟨t.1.1.1.toArray⟩=s:=⟨_,rfl⟩
   obtain ⟨sd,hsd⟩:∃ s:ByteArray,⟨t.1.2.2.1.1.toArray⟩=s:=⟨_,rfl⟩
   obtain ⟨su,hsu⟩:∃ s:ByteArray,⟨t.1.2.2.1.2.toArray⟩=s:=⟨_,rfl⟩
   have hz1:sn.size<=140737488351232:=by rw [<- hsn];show t.1.1.1.toArray.size<=_;simpa using hko.1
   have hz2:sd.size<=140737488351232:=by rw [<- hsd];show t.1.2.2.1.1.toArray.size<=_;simpa using hko.2.1
   have hz3:su.size<=140737488351232:=by rw [<- hsu];show t.1.2.2.1.2.toArray.size<=_;simpa using hko.2.2.1
   obtain ⟨sl,hsl⟩:∃ x,t.1.1.2.1=x:=⟨_,rfl⟩
   obtain ⟨sc,hsc⟩:∃ x,t.1.1.2.2=x:=⟨_,rfl⟩
   obtain ⟨sb,hsb⟩:∃ x,t.1.2.1.1=x:=⟨_,rfl⟩
   obtain ⟨se,hse⟩:∃ x,t.1.2.1.2=x:=⟨_,rfl⟩
   obtain ⟨sw,hsw⟩:∃ x,t.1.2.2.2.1.1=x:=⟨_,rfl⟩
   obtain ⟨sr,hsr⟩:∃ x,t.1.2.2.2.1.2=x:=⟨_,rfl⟩
   have hv:∀ so si,hdV t.1 so si=[.string sn,.int .i64 sl,.int .i64 sc,.bool sb,.bool se,.string sd,.string su,.int .i64 sw,.int .i64 sr,so,si]:=fun so si=>by
    unfold hdV sV
    rw [hsn,hsd,hsu,hsl,hsc,hsb,hse,hsw,hsr]
   have hv2:∀ so si,hdV (stH t.1) so si=[.string sn,.int .i64 0,.int .i64 0,.bool sb,.bool se,.string sd,.string su,.int .i64 sw,.int .i64 sr,so,si]:=fun so si=>by
    show [sV t.1.1.1,.int .i64 0,.int .i64 0,.bool t.1.2.1.1,.bool t.1.2.1.2,sV t.1.2.2.1.1,sV t.1.2.2.1.2,.int .i64 t.1.2.2.2.1.1,.int .i64 t.1.2.2.2.1.2,so,si]=_
    unfold sV
    rw [hsn,hsd,hsu,hsb,hse,hsw,hsr]
   rw [hv] at hc
   have HQ:Hid (l[i]=t):=ht
   have HV2:Hid (∀ so si,hdV (stH t.1) so si=[.string sn,.int .i64 0,.int .i64 0,.bool sb,.bool se,.string sd,.string su,.int .i64 sw,.int .i64 sr,so,si]):=hv2
   have HM:Hid (t.1.2.2.2.2.length=m):=hm
   have HKO:Hid (HdOk t.1):=hko
   have HON:Hid (RdK ok w 6 (rOn ok w) t.1.2.2.2.2 (.slice p1 m p3)):=hOn
   have HIN:Hid (RdK ok w 11 (rSt d ok w) t.2 (.slice p4 ni p6)):=hIn
   clear ht hm hni hko hOn hIn hsn hsd hsu hsl hsc hsb hse hsw hsr hv hv2
   obtain ⟨acc,hac⟩:∃ acc,(l).take i=acc:=⟨_,rfl⟩
   have hla:acc.length=i:=by rw [<- hac];simp [HN.out];omega
   rw [hac] at hRow
   have HAC:Hid ((l).take i=acc):=hac
   clear hac
   have i1:(i:Int) < (n:Int):=by omega
   have i2:(0:Int)<=(i:Int):=by omega
   have C0:=(hb.cell (p:=⟨b,off+i*11+0,none⟩) hbl).trans (hc 0 _ rfl)
   have C1:=(hb.cell (p:=⟨b,off+i*11+1,none⟩) hbl).trans (hc 1 _ rfl)
   have C2:=(hb.cell (p:=⟨b,off+i*11+2,none⟩) hbl).trans (hc 2 _ rfl)
   have C3:=(hb.cell (p:=⟨b,off+i*11+3,none⟩) hbl).trans (hc 3 _ rfl)
   have C4:=(hb.cell (p:=⟨b,off+i*11+4,none⟩) hbl).trans (hc 4 _ rfl)
   have C5:=(hb.cell (p:=⟨b,off+i*11+5,none⟩) hbl).trans (hc 5 _ rfl)
   have C6:=(hb.cell (p:=⟨b,off+i*11+6,none⟩) hbl).trans (hc 6 _ rfl)
   have C7:=(hb.cell (p:=⟨b,off+i*11+7,none⟩) hbl).trans (hc 7 _ rfl)
   have C8:=(hb.cell (p:=⟨b,off+i*11+8,none⟩) hbl).trans (hc 8 _ rfl)
   have C9:=(hb.cell (p:=⟨b,off+i*11+9,none⟩) hbl).trans (hc 9 _ rfl)
   have C10:=(hb.cell (p:=⟨b,off+i*11+10,none⟩) hbl).trans (hc 10 _ rfl)
   rw [Nat.add_zero] at C0
   clear hc
   have hal:=(Below.refl wr.heap.size wr).alloc Nat.le.refl (.cells #[.string sn,.int .i64 sl,.int .i64 sc,.bool sb,.bool se,.string sd,.string su,.int .i64 sw,.int .i64 sr,.slice p1 m p3,.slice p4 ni p6] 55)
   have hX:=Bn.new wr [.string sn,.int .i64 sl,.int .i64 sc,.bool sb,.bool se,.string sd,.string su,.int .i64 sw,.int .i64 sr,.slice p1 m p3,.slice p4 ni p6] 55 _ rfl
   have hRx:=hRow.on (kp_hf d ok w) hGs hal
   have hbx:=hb.trans (hal.mono hb.size)
   have hGx:=Nat.lt_of_lt_of_le hGs hal.size
   have hcall:∀ w1,Below w.heap.size w w1->Calls Tryz.prog 42 #[.agg #[.string sn,.int .i64 sl,.int .i64 sc,.bool sb,.bool se,.string sd,.string su,.int .i64 sw,.int .i64 sr,.slice p1 m p3,.slice p4 ni p6]] w1 fun e w'=>∃ u1 u3,e=.returned (.agg #[.string sn,.int .i64 0,.int .i64 0,.bool sb,.bool se,.string sd,.string su,.int .i64 sw,.int .i64 sr,.slice u1 m u3,.slice p4 ni p6])/\RdK (fun b=>w1.heap.size<=b) w' 6 (rOn (fun b=>w1.heap.size<=b) w') (t.1.2.2.2.2.map stO) (.slice u1 m u3)/\Below w1.heap.size w1 w':=fun w1 b1=>salone_any sn sl sc sb se sd su sw sr p1 m p3 p4 ni p6 t.1.2.2.2.2 hz1 hz2 hz3 (HON.out.stay kp_on (ok':=ok) (fun b hb hl=>⟨hb,b1.block b hl⟩)) HM.out (by have:=HKO.out.2.2.2.1;rw [HM.out] at this;exact this) HKO.out.2.2.2.2
   go_upto_region 5 with fail
   clear C0 C1 C2 C3 C4 C5 C6 C7 C8 C9 C10 hal
   generalize wr.alloc (.cells #[.string sn,.int .i64 sl,.int .i64 sc,.bool sb,.bool se,.string sd,.string su,.int .i64 sw,.int .i64 sr,.slice p1 m p3,.slice p4 ni p6] 55)=wx at *
   obtain ⟨X,hXX⟩:∃ X,wr.heap.size=X:=⟨_,rfl⟩
   rw [hXX] at hX ⊢
   have HXX:Hid (wr.heap.size=X):=hXX
   clear hXX
   have x0:=(hX 0 _ rfl).1
   have x1:=(hX 1 _ rfl).1
   have x2:=(hX 2 _ rfl).1
   have x3:=(hX 3 _ rfl).1
   have x4:=(hX 4 _ rfl).1
   have x5:=(hX 5 _ rfl).1
   have x6:=(hX 6 _ rfl).1
   have x7:=(hX 7 _ rfl).1
   have x8:=(hX 8 _ rfl).1
   have x9:=(hX 9 _ rfl).1
   have x10:=(hX 10 _ rfl).1
   go_wp2_with (first
    | (go_at_call 42;refine (hcall _ hbx).mono ?_;rintro e w1 ⟨u1,u3,rfl,hr,b1⟩;have hp:rHf d ok w (fun b=>w.heap.size < b) w1 t [.string sn,.int .i64 0,.int .i64 0,.bool sb,.bool se,.string sd,.string su,.int .i64 sw,.int .i64 sr,.slice u1 m u3,.slice p4 ni p6]:=(⟨.slice u1 m u3,.slice p4 ni p6,(HV2.out _ _).symm,hr.stay kp_on (fun b hb hl=>⟨Nat.lt_of_lt_of_le hGx hb,rfl⟩),HIN.out⟩);clear hr;have hR1:=hRx.on (kp_hf d ok w) hGx b1;obtain ⟨⟨r0,q0⟩,z0⟩:=hR1.1 (i*11+0) (mul_in hlt (by omega));obtain ⟨⟨r1,q1⟩,z1⟩:=hR1.1 (i*11+1) (mul_in hlt (by omega));obtain ⟨⟨r2,q2⟩,z2⟩:=hR1.1 (i*11+2) (mul_in hlt (by omega));obtain ⟨⟨r3,q3⟩,z3⟩:=hR1.1 (i*11+3) (mul_in hlt (by omega));obtain ⟨⟨r4,q4⟩,z4⟩:=hR1.1 (i*11+4) (mul_in hlt (by omega));obtain ⟨⟨r5,q5⟩,z5⟩:=hR1.1 (i*11+5) (mul_in hlt (by omega));obtain ⟨⟨r6,q6⟩,z6⟩:=hR1.1 (i*11+6) (mul_in hlt (by omega));obtain ⟨⟨r7,q7⟩,z7⟩:=hR1.1 (i*11+7) (mul_in hlt (by omega));obtain ⟨⟨r8,q8⟩,z8⟩:=hR1.1 (i*11+8) (mul_in hlt (by omega));obtain ⟨⟨r9,q9⟩,z9⟩:=hR1.1 (i*11+9) (mul_in hlt (by omega));obtain ⟨⟨r10,q10⟩,z10⟩:=hR1.1 (i*11+10) (mul_in hlt (by omega));rw [Nat.add_zero] at q0 z0)
    | fail)
   have hP:=hR1.put (kp_hf d ok w) (x:=t) (cs:=[.string sn,.int .i64 0,.int .i64 0,.bool sb,.bool se,.string sd,.string su,.int .i64 sw,.int .i64 sr,.slice u1 m u3,.slice p4 ni p6]) (by rw [hla];exact hlt) rfl hp
   rw [hla] at hP
   have hb2:=putL_below [.string sn,.int .i64 0,.int .i64 0,.bool sb,.bool se,.string sd,.string su,.int .i64 sw,.int .i64 sr,.slice u1 m u3,.slice p4 ni p6] w1 w.heap.size (i*11) (hbx.trans (b1.mono (Nat.le_of_lt hGx))) Nat.le.refl
   have hs2:w.heap.size < (putL w1 w.heap.size (i*11) [.string sn,.int .i64 0,.int .i64 0,.bool sb,.bool se,.string sd,.string su,.int .i64 sw,.int .i64 sr,.slice u1 m u3,.slice p4 ni p6]).heap.size:=by rw [putL_size];exact Nat.lt_of_lt_of_le hGx b1.size
   have hac2:(l).take (i+1)=acc++[t]:=by
    rw [List.take_succ_eq_append_getElem (by simp [HN.out];omega),HAC.out]
    simp [HQ.out]
   clear x0 r0 q0 z0 x1 r1 q1 z1 x2 r2 q2 z2 x3 r3 q3 z3 x4 r4 q4 z4 x5 r5 q5 z5 x6 r6 q6 z6 x7 r7 q7 z7 x8 r8 q8 z8 x9 r9 q9 z9 x10 r10 q10 z10 hR1 hRx hp
   go_wp2
   go_roundw
   case rel=>exact ⟨i+1,hlt,by go_num,by rw [hac2];exact hP,hb2,hs2⟩
   case measure=>simp [RowKit.intOf];omega
  ·have i1:¬ (i:Int) < (n:Int):=by omega
   have hin:i=n:=by omega
   have hfull:(l).take i=l:=List.take_of_length_le (by simp [HN.out];omega)
   rw [hfull] at hRow
   go_wp2
   go_ret
   exact ⟨rfl,hRow,hb,hGs⟩
def kR (sd su:ByteArray) (sw sr:Int) (sb se:Bool):Bool:=if sd.toList=[]/\su.toList=[]/\sw=0/\(sr == 0)=true then !sb || !se else !sb && !se && plainB (bl sd) && plainB (bl su) && nbB sw && nbB sr
theorem rknd_any (sn:ByteArray) (sl sc:Int) (sb se:Bool) (sd su:ByteArray) (sw sr:Int) (p1:Option Addr) (m p3:Nat) (p4:Option Addr) (ni p6:Nat) (w:World) (hsd:sd.size<=140737488351232) (hsu:su.size<=140737488351232):Calls Tryz.prog 93 #[.agg #[.string sn,.int .i64 sl,.int .i64 sc,.bool sb,.bool se,.string sd,.string su,.int .i64 sw,.int .i64 sr,.slice p1 m p3,.slice p4 ni p6]] w fun e w'=>e=.returned (.bool (kR sd su sw sr sb se))/\Below w.heap.size w w':=by
 have hal:Below w.heap.size w (w.alloc (.cells #[.string sn,.int .i64 sl,.int .i64 sc,.bool sb,.bool se,.string sd,.string su,.int .i64 sw,.int .i64 sr,.slice p1 m p3,.slice p4 ni p6] 55)):=(Below.refl w.heap.size w).alloc Nat.le.refl _
 have hX:Bn (w.alloc (.cells #[.string sn,.int .i64 sl,.int .i64 sc,.bool sb,.bool se,.string sd,.string su,.int .i64 sw,.int .i64 sr,.slice p1 m p3,.slice p4 ni p6] 55)) w.heap.size [.string sn,.int .i64 sl,.int .i64 sc,.bool sb,.bool se,.string sd,.string su,.int .i64 sw,.int .i64 sr,.slice p1 m p3,.slice p4 ni p6]:=Bn.new w [.string sn,.int .i64 sl,.int .i64 sc,.bool sb,.bool se,.string sd,.string su,.int .i64 sw,.int .i64 sr,.slice p1 m p3,.slice p4 ni p6] 55 _ rfl
 all_goals (
  go_enter Tryz.func93,Tryz.ntmps93
  go_upto_region 1 with fail
  generalize (w.alloc (.cells #[.string sn,.int .i64 sl,.int .i64 sc,.bool sb,.bool se,.string sd,.string su,.int .i64 sw,.int .i64 sr,.slice p1 m p3,.slice p4 ni p6] 55))=wx at *
  have hB:Below wx.heap.size wx wx:=Below.refl _ _
  have x0:=(hX 0 _ rfl).1
  have x1:=(hX 1 _ rfl).1
  have x2:=(hX 2 _ rfl).1
  have x3:=(hX 3 _ rfl).1
  have x4:=(hX 4 _ rfl).1
  have x5:=(hX 5 _ rfl).1
  have x6:=(hX 6 _ rfl).1
  have x7:=(hX 7 _ rfl).1
  have x8:=(hX 8 _ rfl).1
  have x9:=(hX 9 _ rfl).1
  have x10:=(hX 10 _ rfl).1
  go_wp2_with (first
   | (go_at_call 51;refine (rnameB _ _ (by assumption)).mono ?_;rintro e w1 ⟨rfl,b1⟩;have hB:=Below.nx hB b1;obtain ⟨x5,_⟩:=(hX.on hB) 5 _ rfl;obtain ⟨x6,_⟩:=(hX.on hB) 6 _ rfl;obtain ⟨x7,_⟩:=(hX.on hB) 7 _ rfl;obtain ⟨x8,_⟩:=(hX.on hB) 8 _ rfl)
   | (go_at_call 52;refine (rnum_any _ _).mono ?_;rintro e w1 ⟨rfl,b1⟩;have hB:=Below.nx hB b1;obtain ⟨x7,_⟩:=(hX.on hB) 7 _ rfl;obtain ⟨x8,_⟩:=(hX.on hB) 8 _ rfl)
   | fail)
  all_goals (
   go_ret
   exact ⟨by simp [kR, *],hal.trans (hB.mono hal.size)⟩))
def HdK (h:HdC):Prop:=h.1.1.length<=140737488351232/\h.2.2.1.1.length<=140737488351232/\h.2.2.1.2.length<=140737488351232/\∀ o∈h.2.2.2.2,OnK o
def StK:(d:Nat)->St d->Prop
 | 0,t=>Empty.elim t
 | d+1,t=>HdK t.1/\∀ x∈t.2,StK d x
theorem kR_eq (sd su:ByteArray) (h:HdC) (h1:bl sd=h.2.2.1.1) (h2:bl su=h.2.2.1.2):kR sd su h.2.2.2.1.1 h.2.2.2.1.2 h.2.1.1 h.2.1.2=kndF h:=by
 have e1:sd.toList=bl sd:=ByteArray.toList_eq _
 have e2:su.toList=bl su:=ByteArray.toList_eq _
 unfold kR kndF stepB
 rw [e1,e2,<- h1,<- h2]
 by_cases a:bl sd=[]<;>by_cases b:bl su=[]<;>by_cases c:h.2.2.2.1.1=0<;>by_cases e:h.2.2.2.1.2=0<;>simp [a,b,c,e]
theorem hd_out (h:HdC) (h1:h.1.1.length<=140737488351232) (h2:h.2.2.1.1.length<=140737488351232) (h3:h.2.2.1.2.length<=140737488351232):∃ (sn:ByteArray) (sl sc:Int) (sb se:Bool) (sd su:ByteArray) (sw sr:Int),hdV h=(fun so si=>[.string sn,.int .i64 sl,.int .i64 sc,.bool sb,.bool se,.string sd,.string su,.int .i64 sw,.int .i64 sr,so,si])/\plainB h.1.1=plainB (bl sn)/\kndF h=kR sd su sw sr sb se/\sn.size<=140737488351232/\sd.size<=140737488351232/\su.size<=140737488351232:=by
 obtain ⟨sn,a1,a2,a3⟩:=sV_out h.1.1 h1
 obtain ⟨sd,b1,b2,b3⟩:=sV_out h.2.2.1.1 h2
 obtain ⟨su,c1,c2,c3⟩:=sV_out h.2.2.1.2 h3
 refine ⟨sn,h.1.2.1,h.1.2.2,h.2.1.1,h.2.1.2,sd,su,h.2.2.2.1.1,h.2.2.2.1.2,?_,by rw [a2],(kR_eq sd su h b2 c2).symm,a3,b3,c3⟩
 funext so si
 unfold hdV
 rw [a1,b1,c1]
theorem rst1_any (sn:ByteArray) (sl sc:Int) (sb se:Bool) (sd su:ByteArray) (sw sr:Int) (p1:Option Addr) (m p3:Nat) (p4:Option Addr) (ni p6:Nat) (kb:Nat) (n:Int) (bk bo bi:Bool) (w:World) (h0:0<=n) (hkl:kb < w.heap.size) (hkc:w.cell? ⟨kb,0,none⟩=some (.int .i64 n)) (hsn:sn.size<=140737488351232) (hk:∀ w1,Below w.heap.size w w1->Calls Tryz.prog 93 #[.agg #[.string sn,.int .i64 sl,.int .i64 sc,.bool sb,.bool se,.string sd,.string su,.int .i64 sw,.int .i64 sr,.slice p1 m p3,.slice p4 ni p6]] w1 fun e w'=>e=.returned (.bool bk)/\Below w1.heap.size w1 w') (ho:∀ w1,Below w.heap.size w w1->Calls Tryz.prog 94 #[.slice p1 m p3,.func (.func 95) #[] #[]] w1 fun e w'=>e=.returned (.bool bo)/\Below w1.heap.size w1 w') (hi:∀ w1,Below w.heap.size w w1->Calls Tryz.prog 55 #[.slice p4 ni p6,.int .i64 (n+1)] w1 fun e w'=>e=.returned (.bool bi)/\Below w1.heap.size w1 w'):Calls Tryz.prog 92 #[.agg #[.string sn,.int .i64 sl,.int .i64 sc,.bool sb,.bool se,.string sd,.string su,.int .i64 sw,.int .i64 sr,.slice p1 m p3,.slice p4 ni p6],.pointer (some ⟨kb,0,none⟩)] w fun e w'=>e=.returned (.bool (decide (n<=6) && plainB (bl sn) && bk && bo && bi))/\Below w.heap.size w w':=by
 have hal:Below w.heap.size w (w.alloc (.cells #[.string sn,.int .i64 sl,.int .i64 sc,.bool sb,.bool se,.string sd,.string su,.int .i64 sw,.int .i64 sr,.slice p1 m p3,.slice p4 ni p6] 55)):=(Below.refl w.heap.size w).alloc Nat.le.refl _
 have hX:Bn (w.alloc (.cells #[.string sn,.int .i64 sl,.int .i64 sc,.bool sb,.bool se,.string sd,.string su,.int .i64 sw,.int .i64 sr,.slice p1 m p3,.slice p4 ni p6] 55)) w.heap.size [.string sn,.int .i64 sl,.int .i64 sc,.bool sb,.bool se,.string sd,.string su,.int .i64 sw,.int .i64 sr,.slice p1 m p3,.slice p4 ni p6]:=Bn.new w [.string sn,.int .i64 sl,.int .i64 sc,.bool sb,.bool se,.string sd,.string su,.int .i64 sw,.int .i64 sr,.slice p1 m p3,.slice p4 ni p6] 55 _ rfl
 by_cases hn6:n<=6
 all_goals (
  go_enter Tryz.func92,Tryz.ntmps92
  go_upto_region 1 with fail
  generalize (w.alloc (.cells #[.string sn,.int .i64 sl,.int .i64 sc,.bool sb,.bool se,.string sd,.string su,.int .i64 sw,.int .i64 sr,.slice p1 m p3,.slice p4 ni p6] 55))=wx at *
  have hB:Below wx.heap.size wx wx:=Below.refl _ _
  have x0:=(hX 0 _ rfl).1
  have x1:=(hX 1 _ rfl).1
  have x2:=(hX 2 _ rfl).1
  have x3:=(hX 3 _ rfl).1
  have x4:=(hX 4 _ rfl).1
  have x5:=(hX 5 _ rfl).1
  have x6:=(hX 6 _ rfl).1
  have x7:=(hX 7 _ rfl).1
  have x8:=(hX 8 _ rfl).1
  have x9:=(hX 9 _ rfl).1
  have x10:=(hX 10 _ rfl).1
  have kc:=(hal.cell (p:=⟨kb,0,none⟩) hkl).trans hkc
  go_wp2_with (first
   | (go_at_call 51;refine (rnameB _ _ (by assumption)).mono ?_;rintro e w1 ⟨rfl,b1⟩;have hB:=Below.nx hB b1;have kc:=((hal.trans (hB.mono hal.size)).cell (p:=⟨kb,0,none⟩) hkl).trans hkc;obtain ⟨x0,_⟩:=(hX.on hB) 0 _ rfl;obtain ⟨x1,_⟩:=(hX.on hB) 1 _ rfl;obtain ⟨x2,_⟩:=(hX.on hB) 2 _ rfl;obtain ⟨x3,_⟩:=(hX.on hB) 3 _ rfl;obtain ⟨x4,_⟩:=(hX.on hB) 4 _ rfl;obtain ⟨x5,_⟩:=(hX.on hB) 5 _ rfl;obtain ⟨x6,_⟩:=(hX.on hB) 6 _ rfl;obtain ⟨x7,_⟩:=(hX.on hB) 7 _ rfl;obtain ⟨x8,_⟩:=(hX.on hB) 8 _ rfl;obtain ⟨x9,_⟩:=(hX.on hB) 9 _ rfl;obtain ⟨x10,_⟩:=(hX.on hB) 10 _ rfl)
   | (go_at_call 93;refine (hk _ (hal.trans (hB.mono hal.size))).mono ?_;rintro e w1 ⟨rfl,b1⟩;have hB:=Below.nx hB b1;have kc:=((hal.trans (hB.mono hal.size)).cell (p:=⟨kb,0,none⟩) hkl).trans hkc;obtain ⟨x9,_⟩:=(hX.on hB) 9 _ rfl;obtain ⟨x10,_⟩:=(hX.on hB) 10 _ rfl)
   | (go_at_call 94;refine (ho _ (hal.trans (hB.mono hal.size))).mono ?_;rintro e w1 ⟨rfl,b1⟩;have hB:=Below.nx hB b1;have kc:=((hal.trans (hB.mono hal.size)).cell (p:=⟨kb,0,none⟩) hkl).trans hkc;obtain ⟨x10,_⟩:=(hX.on hB) 10 _ rfl)
   | (go_at_call 55;refine (hi _ (hal.trans (hB.mono hal.size))).mono ?_;rintro e w1 ⟨rfl,b1⟩;have hB:=Below.nx hB b1;have kc:=((hal.trans (hB.mono hal.size)).cell (p:=⟨kb,0,none⟩) hkl).trans hkc;skip)
   | fail)
  all_goals (
   go_ret
   exact ⟨by first|(simp [*];done)|(simp [*];intro hz;omega),hal.trans (hB.mono hal.size)⟩))
theorem everySt_any {d kb n0:Nat}{ok:Nat->Prop}{w:World}{l:List (St (d+1))}{v:Value}(h:RdK ok w 11 (rSt (d+1) ok w) l v) (hok:∀ s∈l,HdK s.1) (hin:∀ t∈l,∀ (w1:World) (v1:Value),RdK ok w1 11 (rSt d ok w1) t.2 v1->Pow w1->Calls Tryz.prog 55 #[v1,.int .i64 ((n0:Int)+1)] w1 fun e w'=>e=.returned (.bool (t.2.all (stF d (n0+1))))/\Below w1.heap.size w1 w') (hp:Pow w) (hkl:kb < w.heap.size) (hkc:w.cell? ⟨kb,0,none⟩=some (.int .i64 (n0:Int))) :
  Calls Tryz.prog 91 #[v,.func (.func 92) #[] #[.pointer (some ⟨kb,0,none⟩)]] w fun e w'=>e=.returned (.bool (l.all (stF (d+1) n0)))/\Below w.heap.size w w':=by
 obtain ⟨a,cap,rfl,hlc,hcm⟩:=h.form
 unfold maxLen at hcm
 have HC:=mkHid h
 have HK:=mkHid hok
 have HI:=mkHid hin
 obtain ⟨n,hn⟩:∃ n,l.length=n:=⟨_,rfl⟩
 rw [hn] at hlc ⊢
 have HN:Hid (l.length=n):=hn
 obtain ⟨f,hf⟩:∃ f:(St (d+1))->Bool,(stF (d+1) n0)=f:=⟨_,rfl⟩
 rw [hf]
 have HF:=mkHid hf
 obtain ⟨V,HA⟩:∃ V,l.all f=V:=⟨_,rfl⟩
 rw [HA]
 have HAA:=mkHid HA
 clear h hok hin hn hf HA
 go_enter Tryz.func91,Tryz.ntmps91
 go_wp2
 go_loopw [9] (fun ix wr=>∃ (i:Nat),i<=n/\ix=.int .i64 (i:Int)/\Hid (∀ x∈l.take i,f x=true)/\Below w.heap.size w wr) (fun ix _=>n - (RowKit.intOf ix).toNat)
 case atStart=>exact ⟨0,Nat.zero_le _,rfl,(show Hid _ from fun x hx=>by simp at hx),Below.refl _ _⟩
 case round=>
  obtain ⟨i,hi,rfl,hT,hb⟩:=hrel
  by_cases hlt:i < n
  ·have hil:i < l.length:=by rw [HN.out];exact hlt
   have HA:=HAA.out
   obtain ⟨b,off,p1,p3,p4,p6,rfl,hbl,hOn,hIn,hc⟩:=stQ_at HC.out i hil
   have hmem:=List.getElem_mem hil
   have hko:=HK.out _ hmem
   have hiq:=HI.out _ hmem
   obtain ⟨q,ht⟩:∃ t,l[i]=t:=⟨_,rfl⟩
   have HQ:=mkHid ht
   rw [ht] at hOn hIn hc hko hiq
   obtain ⟨sn,sl,sc,sb,se,sd,su,sw,sr,hsv,hpn,hkd,hsn,hsd,hsu⟩:=hd_out q.1 hko.1 hko.2.1 hko.2.2.1
   have hfx:f q=(decide ((n0:Int)<=6) && plainB (bl sn) && kR sd su sw sr sb se && q.1.2.2.2.2.all onF && q.2.all (stF d (n0+1))):=by
    rw [<- HF.out,<- hpn,<- hkd]
    have e:decide ((n0:Int)<=6)=decide (n0<=6):=by by_cases hh:n0<=6<;>simp [hh]<;>omega
    rw [e];rfl
   obtain ⟨m,hm⟩:∃ m,q.1.2.2.2.2.length=m:=⟨_,rfl⟩
   obtain ⟨ni,hni⟩:∃ m,q.2.length=m:=⟨_,rfl⟩
   rw [hm] at hOn hc
   rw [hni] at hIn hc
   rw [hsv] at hc
   have HON:=mkHid hOn
   have HIQ:=mkHid hiq
   have HIN:=mkHid hIn
   have HKO:=mkHid hko
   clear hmem ht hm hni hsv hOn hIn hko hiq hpn hkd
   have i1:(i:Int) < (n:Int):=by omega
   have i2:(0:Int)<=(i:Int):=by omega
   have C0:=(hb.cell (p:=⟨b,off+i*11+0,none⟩) hbl).trans (hc 0 _ rfl)
   have C1:=(hb.cell (p:=⟨b,off+i*11+1,none⟩) hbl).trans (hc 1 _ rfl)
   have C2:=(hb.cell (p:=⟨b,off+i*11+2,none⟩) hbl).trans (hc 2 _ rfl)
   have C3:=(hb.cell (p:=⟨b,off+i*11+3,none⟩) hbl).trans (hc 3 _ rfl)
   have C4:=(hb.cell (p:=⟨b,off+i*11+4,none⟩) hbl).trans (hc 4 _ rfl)
   have C5:=(hb.cell (p:=⟨b,off+i*11+5,none⟩) hbl).trans (hc 5 _ rfl)
   have C6:=(hb.cell (p:=⟨b,off+i*11+6,none⟩) hbl).trans (hc 6 _ rfl)
   have C7:=(hb.cell (p:=⟨b,off+i*11+7,none⟩) hbl).trans (hc 7 _ rfl)
   have C8:=(hb.cell (p:=⟨b,off+i*11+8,none⟩) hbl).trans (hc 8 _ rfl)
   have C9:=(hb.cell (p:=⟨b,off+i*11+9,none⟩) hbl).trans (hc 9 _ rfl)
   have C10:=(hb.cell (p:=⟨b,off+i*11+10,none⟩) hbl).trans (hc 10 _ rfl)
   rw [Nat.add_zero] at C0
   clear hc
   have hal:Below wr.heap.size wr (wr.alloc (.cells #[.string sn,.int .i64 sl,.int .i64 sc,.bool sb,.bool se,.string sd,.string su,.int .i64 sw,.int .i64 sr,.slice p1 m p3,.slice p4 ni p6] 55)):=(Below.refl _ _).alloc Nat.le.refl _
   have hX:Bn (wr.alloc (.cells #[.string sn,.int .i64 sl,.int .i64 sc,.bool sb,.bool se,.string sd,.string su,.int .i64 sw,.int .i64 sr,.slice p1 m p3,.slice p4 ni p6] 55)) wr.heap.size [.string sn,.int .i64 sl,.int .i64 sc,.bool sb,.bool se,.string sd,.string su,.int .i64 sw,.int .i64 sr,.slice p1 m p3,.slice p4 ni p6]:=Bn.new wr [.string sn,.int .i64 sl,.int .i64 sc,.bool sb,.bool se,.string sd,.string su,.int .i64 sw,.int .i64 sr,.slice p1 m p3,.slice p4 ni p6] 55 _ rfl
   have hbx:=hb.trans (hal.mono hb.size)
   have hcall:∀ w1,Below w.heap.size w w1->Calls Tryz.prog 92 #[.agg #[.string sn,.int .i64 sl,.int .i64 sc,.bool sb,.bool se,.string sd,.string su,.int .i64 sw,.int .i64 sr,.slice p1 m p3,.slice p4 ni p6],.pointer (some ⟨kb,0,none⟩)] w1 fun e w'=>e=.returned (.bool (f q))/\Below w1.heap.size w1 w':=fun w1 b1=>by
    rw [hfx]
    exact rst1_any sn sl sc sb se sd su sw sr p1 m p3 p4 ni p6 kb n0 _ _ _ w1 (by omega) (Nat.lt_of_lt_of_le hkl b1.size) ((b1.cell (p:=⟨kb,0,none⟩) hkl).trans hkc) hsn (fun w2 b2=>rknd_any sn sl sc sb se sd su sw sr p1 m p3 p4 ni p6 w2 hsd hsu) (fun w2 b2=>everyOn_any (HON.out.stay kp_on (ok':=ok) (fun b hb hl=>⟨hb,((b2.block b (Nat.lt_of_lt_of_le hl b1.size)).trans (b1.block b hl))⟩)) HKO.out.2.2.2 ((hp.below b1).below b2)) (fun w2 b2=>HIQ.out w2 _ (HIN.out.stay (kp_st d) (ok':=ok) (fun b hb hl=>⟨hb,((b2.block b (Nat.lt_of_lt_of_le hl b1.size)).trans (b1.block b hl))⟩)) ((hp.below b1).below b2))
   clear hfx hsn hsd hsu
   have hac2:Hid (f q=true->(∀ x∈l.take (i+1),f x=true)):=fun hq=>by
    rw [List.take_succ_eq_append_getElem hil,HQ.out]
    intro x hx
    rcases List.mem_append.1 hx with hx|hx
    ·exact hT.out x hx
    ·rw [List.mem_singleton.1 hx];exact hq
   have hall:Hid (f q=false->l.all f=false):=fun hq=>by
    show l.all f=false
    rw [List.all_eq_false]
    exact ⟨q,by rw [<- HQ.out];exact List.getElem_mem hil,by rw [hq];decide⟩
   cases hfq:f q with
   | true=>
    rw [hfq] at hcall
    have hT2:Hid (∀ x∈l.take (i+1),f x=true):=hac2.out hfq
    clear hac2 hall hfq
    go_upto_region 4 with fail
    clear C0 C1 C2 C3 C4 C5 C6 C7 C8 C9 C10
    generalize (wr.alloc (.cells #[.string sn,.int .i64 sl,.int .i64 sc,.bool sb,.bool se,.string sd,.string su,.int .i64 sw,.int .i64 sr,.slice p1 m p3,.slice p4 ni p6] 55))=wx at *
    have x0:=(hX 0 _ rfl).1
    have x1:=(hX 1 _ rfl).1
    have x2:=(hX 2 _ rfl).1
    have x3:=(hX 3 _ rfl).1
    have x4:=(hX 4 _ rfl).1
    have x5:=(hX 5 _ rfl).1
    have x6:=(hX 6 _ rfl).1
    have x7:=(hX 7 _ rfl).1
    have x8:=(hX 8 _ rfl).1
    have x9:=(hX 9 _ rfl).1
    have x10:=(hX 10 _ rfl).1
    go_wp2_with (first
     | (go_at_call 92;refine (hcall _ hbx).mono ?_;rintro e w1 ⟨rfl,b1⟩)
     | fail)
    have hb2:=hbx.trans (b1.mono hbx.size)
    go_wp2
    go_roundw
    case rel=>exact ⟨i+1,hlt,by go_num,hT2,hb2⟩
    case measure=>simp [RowKit.intOf];omega
   | false=>
    rw [hfq] at hcall
    have hA:=hall.out hfq
    rw [hA] at HA
    subst HA
    clear hac2 hall hfq hA
    go_upto_region 4 with fail
    clear C0 C1 C2 C3 C4 C5 C6 C7 C8 C9 C10
    generalize (wr.alloc (.cells #[.string sn,.int .i64 sl,.int .i64 sc,.bool sb,.bool se,.string sd,.string su,.int .i64 sw,.int .i64 sr,.slice p1 m p3,.slice p4 ni p6] 55))=wx at *
    have x0:=(hX 0 _ rfl).1
    have x1:=(hX 1 _ rfl).1
    have x2:=(hX 2 _ rfl).1
    have x3:=(hX 3 _ rfl).1
    have x4:=(hX 4 _ rfl).1
    have x5:=(hX 5 _ rfl).1
    have x6:=(hX 6 _ rfl).1
    have x7:=(hX 7 _ rfl).1
    have x8:=(hX 8 _ rfl).1
    have x9:=(hX 9 _ rfl).1
    have x10:=(hX 10 _ rfl).1
    go_wp2_with (first
     | (go_at_call 92;refine (hcall _ hbx).mono ?_;rintro e w1 ⟨rfl,b1⟩)
     | fail)
    go_ret
    exact ⟨rfl,hbx.trans (b1.mono hbx.size)⟩
  ·have i1:¬ (i:Int) < (n:Int):=by omega
   have hV:V=true:=by
    rw [<- HAA.out,List.all_eq_true]
    have hf:=hT.out
    rw [List.take_of_length_le (by rw [HN.out];omega)] at hf
    exact hf
   subst hV
   go_wp2
   go_ret
   exact ⟨rfl,hb⟩
def RsK (d:Nat):Prop:=∀ (ok:Nat->Prop) (w:World) (l:List (St d)) (v:Value) (n0:Nat),RdK ok w 11 (rSt d ok w) l v->(∀ t∈l,StK d t)->Pow w->Calls Tryz.prog 55 #[v,.int .i64 (n0:Int)] w fun e w'=>e=.returned (.bool (l.all (stF d n0)))/\Below w.heap.size w w'
theorem rsts_walk {w:World}{v:Value}{n:Int}{b:Bool}(hv:∃ a m cap,v=.slice a m cap) (hk:∀ T,Calls Tryz.prog 91 #[v,.func (.func 92) #[] #[.pointer (some ⟨w.heap.size,0,none⟩)]] (w.alloc (.cells #[.int .i64 n] T)) fun e w'=>e=.returned (.bool b)/\Below (w.alloc (.cells #[.int .i64 n] T)).heap.size (w.alloc (.cells #[.int .i64 n] T)) w'):Calls Tryz.prog 55 #[v,.int .i64 n] w fun e w'=>e=.returned (.bool b)/\Below w.heap.size w w':=by
 have hal:∀ T,Below w.heap.size w (w.alloc (.cells #[.int .i64 n] T)):=fun T=>(Below.refl w.heap.size w).alloc Nat.le.refl _
 obtain ⟨p4,ni,p6,rfl⟩:=hv
 go_enter Tryz.func55,Tryz.ntmps55
 go_upto_region 1 with fail
 go_wp2_with (first
  | (go_at_call 91;refine (hk _).mono ?_;rintro e w1 ⟨rfl,b1⟩)
  | fail)
 go_ret
 exact ⟨rfl,(hal _).trans (b1.mono (hal _).size)⟩
theorem rsts_in {d:Nat}(ok:Nat->Prop) (w:World) (l:List (St (d+1))) (v:Value) (n0:Nat) (h:RdK ok w 11 (rSt (d+1) ok w) l v) (hk:∀ t∈l,HdK t.1) (hin:∀ t∈l,∀ (w1:World) (v1:Value),RdK ok w1 11 (rSt d ok w1) t.2 v1->Pow w1->Calls Tryz.prog 55 #[v1,.int .i64 ((n0:Int)+1)] w1 fun e w'=>e=.returned (.bool (t.2.all (stF d (n0+1))))/\Below w1.heap.size w1 w') (hp:Pow w):Calls Tryz.prog 55 #[v,.int .i64 (n0:Int)] w fun e w'=>e=.returned (.bool (l.all (stF (d+1) n0)))/\Below w.heap.size w w':=by
 refine rsts_walk (h.form.elim fun a x=>x.elim fun cap y=>⟨a,_,cap,y.1⟩) fun T=>?_
 have hal:Below w.heap.size w (w.alloc (.cells #[.int .i64 (n0:Int)] T)):=(Below.refl w.heap.size w).alloc Nat.le.refl _
 have hX:Bn (w.alloc (.cells #[.int .i64 (n0:Int)] T)) w.heap.size [.int .i64 (n0:Int)]:=Bn.new w [.int .i64 (n0:Int)] T _ rfl
 exact everySt_any (h.stay (kp_st (d+1)) (ok':=ok) (fun b hb hl=>⟨hb,hal.block b hl⟩)) hk hin (hp.below hal) (by simp) (hX 0 _ rfl).1
theorem rsts_zero:RsK 0:=by
 intro ok w l v n0 h hk hp
 have hl:l=[]:=by
  cases l with
  | nil=>rfl
  | cons t r=>exact Empty.elim t
 subst hl
 exact rsts_in (d:=0) ok w [] v n0 (by
  obtain ⟨a,cap,e,h1,h2,h3⟩:=h
  refine ⟨a,cap,e,h1,h2,?_⟩
  exact fun i hi=>absurd hi (Nat.not_lt_zero i)) (fun t ht=>by simp at ht) (fun t ht=>by simp at ht) hp
theorem rsts_step {d:Nat}(IH:RsK d):RsK (d+1):=by
 intro ok w l v n0 h hk hp
 refine rsts_in ok w l v n0 h (fun t ht=>(hk t ht).1) (fun t ht w1 v1 hr hp1=>?_) hp
 have:=IH ok w1 t.2 v1 (n0+1) hr (hk t ht).2 hp1
 rw [Int.natCast_add] at this
 exact this
theorem rsts_any:∀ d,RsK d
 | 0=>rsts_zero
 | d+1=>rsts_step (rsts_any d)
theorem formed_walk (s0:ByteArray) (n pl pc:Int) (p1:Option Addr) (m p3:Nat) (p4:Option Addr) (ni p6:Nat) (bv bs:Bool) (w:World) (hs0:s0.size<=140737488351232) (hv:∀ w1,Below w.heap.size w w1->Calls Tryz.prog 53 #[.slice p1 m p3,.func (.func 54) #[] #[]] w1 fun e w'=>e=.returned (.bool bv)/\Below w1.heap.size w1 w') (hs:∀ w1,Below w.heap.size w w1->Calls Tryz.prog 55 #[.slice p4 ni p6,.int .i64 1] w1 fun e w'=>e=.returned (.bool bs)/\Below w1.heap.size w1 w'):Calls Tryz.prog 21 #[.agg #[.string s0,.int .i64 n,.int .i64 pl,.int .i64 pc,.slice p1 m p3,.slice p4 ni p6]] w fun e w'=>e=.returned (.bool (plainB (bl s0) && nbB n && bv && bs))/\Below w.heap.size w w':=by
 have hal:Below w.heap.size w (w.alloc (.cells #[.string s0,.int .i64 n,.int .i64 pl,.int .i64 pc,.slice p1 m p3,.slice p4 ni p6] 33)):=(Below.refl w.heap.size w).alloc Nat.le.refl _
 have hX:Bn (w.alloc (.cells #[.string s0,.int .i64 n,.int .i64 pl,.int .i64 pc,.slice p1 m p3,.slice p4 ni p6] 33)) w.heap.size [.string s0,.int .i64 n,.int .i64 pl,.int .i64 pc,.slice p1 m p3,.slice p4 ni p6]:=Bn.new w [.string s0,.int .i64 n,.int .i64 pl,.int .i64 pc,.slice p1 m p3,.slice p4 ni p6] 33 _ rfl
 all_goals (
  go_enter Tryz.func21,Tryz.ntmps21
  go_upto_region 1 with fail
  generalize (w.alloc (.cells #[.string s0,.int .i64 n,.int .i64 pl,.int .i64 pc,.slice p1 m p3,.slice p4 ni p6] 33))=wx at *
  have hB:Below wx.heap.size wx wx:=Below.refl _ _
  have x0:=(hX 0 _ rfl).1
  have x1:=(hX 1 _ rfl).1
  have x2:=(hX 2 _ rfl).1
  have x3:=(hX 3 _ rfl).1
  have x4:=(hX 4 _ rfl).1
  have x5:=(hX 5 _ rfl).1
  go_wp2_with (first
   | (go_at_call 51;refine (rnameB _ _ (by assumption)).mono ?_;rintro e w1 ⟨rfl,b1⟩;have hB:=Below.nx hB b1;obtain ⟨x1,_⟩:=(hX.on hB) 1 _ rfl;obtain ⟨x4,_⟩:=(hX.on hB) 4 _ rfl;obtain ⟨x5,_⟩:=(hX.on hB) 5 _ rfl)
   | (go_at_call 52;refine (rnum_any _ _).mono ?_;rintro e w1 ⟨rfl,b1⟩;have hB:=Below.nx hB b1;obtain ⟨x4,_⟩:=(hX.on hB) 4 _ rfl;obtain ⟨x5,_⟩:=(hX.on hB) 5 _ rfl)
   | (go_at_call 53;refine (hv _ (hal.trans (hB.mono hal.size))).mono ?_;rintro e w1 ⟨rfl,b1⟩;have hB:=Below.nx hB b1;obtain ⟨x5,_⟩:=(hX.on hB) 5 _ rfl)
   | (go_at_call 55;refine (hs _ (hal.trans (hB.mono hal.size))).mono ?_;rintro e w1 ⟨rfl,b1⟩;have hB:=Below.nx hB b1;skip)
   | fail)
  all_goals (
   go_ret
   exact ⟨by simp [*],hal.trans (hB.mono hal.size)⟩))
def ChK (d:Nat) (c:ChG d):Prop:=c.1.1.length<=140737488351232/\(∀ x∈c.2.2.1,x.1.length<=140737488351232)/\∀ t∈c.2.2.2,StK d t
theorem formedC_any {ok:Nat->Prop}{w:World}{d:Nat}{c:ChG d}{v:Value}(h:RdC ok w d c v) (hk:ChK d c) (hp:Pow w):Calls Tryz.prog 21 #[v] w fun e w'=>e=.returned (.bool (chF d c))/\Below w.heap.size w w':=by
 obtain ⟨sv,ss,rfl,hv,hs⟩:=h
 obtain ⟨s0,a1,a2,a3⟩:=sV_out c.1.1 hk.1
 have e:chF d c=(plainB (bl s0) && nbB c.2.1 && c.2.2.1.all varF && c.2.2.2.all (stF d 1)):=by rw [a2];rfl
 rw [a1,e]
 have kv:∀ w1,Below w.heap.size w w1->Calls Tryz.prog 53 #[sv,.func (.func 54) #[] #[]] w1 fun e w'=>e=.returned (.bool (c.2.2.1.all varF))/\Below w1.heap.size w1 w':=fun w1 b1=>everyVar_any (hv.stay kp_var (ok':=ok) (fun b hb hl=>⟨hb,b1.block b hl⟩)) hk.2.1
 have ks:∀ w1,Below w.heap.size w w1->Calls Tryz.prog 55 #[ss,.int .i64 1] w1 fun e w'=>e=.returned (.bool (c.2.2.2.all (stF d 1)))/\Below w1.heap.size w1 w':=fun w1 b1=>rsts_any d ok w1 c.2.2.2 ss 1 (hs.stay (kp_st d) (ok':=ok) (fun b hb hl=>⟨hb,b1.block b hl⟩)) hk.2.2 (hp.below b1)
 obtain ⟨p1,p3,rfl,_⟩:=hv.form
 obtain ⟨p4,p6,rfl,_⟩:=hs.form
 exact formed_walk s0 _ _ _ p1 _ p3 p4 _ p6 _ _ w a3 kv ks
theorem Tryz.sizeSB:(Tryz.prog.info? 78).map (·.size)=some 2:=by kernel_rfl
theorem Tryz.liesSB:liesAt Tryz.prog Tryz.prog.depth 80 (2 / Tryz.prog.cellsOf 80) 0 78 1=true:=by kernel_rfl
theorem Tryz.undPB:Tryz.prog.underlying 75=some (.pointer 78):=by kernel_rfl
theorem wCheck_used (b:Nat) (w:World) (h0:w.cell? ⟨b,0,none⟩=some (.pointer (some ⟨b,0,none⟩))) :
  Calls Tryz.prog 235 #[.pointer (some ⟨b,0,none⟩)] w fun e w'=>e=.returned (.tuple #[])/\w'=w:=by
 obtain ⟨j,hj,_⟩:=Option.map_eq_some_iff.1 Tryz.sizeSB
 go_enter Tryz.func235,Tryz.ntmps235
 go_wp2
 rw [Lib.run_neq_ptr_same w _ Tryz.undPB hj]
 go_wp2
 go_end0
 exact ⟨rfl,rfl⟩
theorem Tryz.undUP:Tryz.prog.underlying 305=some .unsafePointer:=by kernel_rfl
theorem Tryz.noEsc (x:Value) (w:World):(callFunc 261 #[x]).run Tryz.prog w=.ok (.value x) w:=by
 rw [run_callFunc_extern Tryz.func261 (by kernel_rfl) (by kernel_rfl) (by kernel_rfl) (e:=Extern.AbiNoEscape.same) (by kernel_rfl)]
 rw [Lib.run_noEscape]
 rfl
theorem wCheck_new (b:Nat) (w:World) (h0:w.cell? ⟨b,0,none⟩=some (.pointer none)) (hsh:w.shape? b=some (80,2)) (hfz:w.frozen? ⟨b,0,none⟩=false) :
  Calls Tryz.prog 235 #[.pointer (some ⟨b,0,none⟩)] w fun e w'=>e=.returned (.tuple #[])/\w'=w.setCell ⟨b,0,none⟩ (.pointer (some ⟨b,0,none⟩)):=by
 obtain ⟨j,hj,hjs⟩:=Option.map_eq_some_iff.1 Tryz.sizeSB
 have hv:=Lib.run_to_unsafe (P:=Tryz.prog) w ⟨b,0,none⟩ Tryz.undPB Tryz.undUP hj (by rw [hjs];decide) hsh (Nat.zero_lt_succ 1)
 have hb:=Lib.run_from_unsafe (P:=Tryz.prog) w ⟨b,0,none⟩ Tryz.undUP Tryz.undPB hj hsh Tryz.liesSB
 have hn:=Tryz.noEsc (.pointer (some ⟨b,0,none⟩)) w
 go_enter Tryz.func235,Tryz.ntmps235
 go_wp2
 go_end0
 exact ⟨rfl,rfl⟩
abbrev Wr (B b:Nat) (l:List UInt8) (w:World):Prop:=Lib.IsBuilderF 80 5 B b (Lib.byteCells l) w
theorem wCheck_any {B b:Nat}{bs:List Value}{w:World}(h:Lib.IsBuilderF 80 5 B b bs w) :
  Calls Tryz.prog 235 #[.pointer (some ⟨b,0,none⟩)] w fun e w'=>e=.returned (.tuple #[])/\Lib.BuilderAtF 80 5 B b (.pointer (some ⟨b,0,none⟩)) bs w'/\Below B w w'/\Lib.OthersKept 5 (some b) w w':=by
 cases h with
 | inl h=>
  refine (wCheck_new b w h.cell0 h.shape h.frozen0).mono ?_
  rintro e w' ⟨he,hw⟩
  subst hw
  exact ⟨he,h.used _,(Below.refl B w).setCell (p:=⟨b,0,none⟩) h.1 _,(Lib.OthersKept.refl _ _ w).setCell ⟨b,0,none⟩ rfl _⟩
 | inr h=>
  refine (wCheck_used b w h.cell0).mono ?_
  rintro e w' ⟨he,hw⟩
  subst hw
  exact ⟨he,h,Below.refl B _,Lib.OthersKept.refl _ _ _⟩
theorem wr_form {B b:Nat}{bs:List Value}{w:World}(h:Lib.IsBuilderF 80 5 B b bs w):∃ p a cap,w.heap[b]?=some (.cells #[p,.slice a bs.length cap] 80 (0,0)):=by
 have key:∀ p,Lib.BuilderAtF 80 5 B b p bs w->∃ p a cap,w.heap[b]?=some (.cells #[p,.slice a bs.length cap] 80 (0,0)):=by
  rintro p ⟨_,v,hb,ho,_⟩
  rcases ho.2 with ⟨hv,h0⟩|⟨g,cap,cur,fz,hv,_⟩
  ·exact ⟨p,none,0,by rw [hb,hv,h0]⟩
  ·exact ⟨p,some ⟨g,0,none⟩,cap,by rw [hb,hv]⟩
 exact h.elim (key _) (key _)
theorem wLen_any {B b:Nat}{bs:List Value}{w:World}(h:Lib.IsBuilderF 80 5 B b bs w) :
  Calls Tryz.prog 197 #[.pointer (some ⟨b,0,none⟩)] w fun e w'=>e=.returned (.int .i64 bs.length)/\w'=w:=by
 obtain ⟨p,a,cap,hb⟩:=wr_form h
 have c1:w.cell? ⟨b,1,none⟩=some (.slice a bs.length cap):=by rw [Lib.cell_of_heap hb];rfl
 clear h hb
 go_enter Tryz.func197,Tryz.ntmps197
 go_wp2
 go_ret
 exact ⟨rfl,rfl⟩
theorem Tryz.infoU8:(Tryz.prog.info? 5).map (fun i=>(i.zero,i.size,i.bytes))=some (some (.int .u8 0),1,1):=by kernel_rfl
theorem Tryz.undBs:Tryz.prog.underlying 76=some (.slice 5):=by kernel_rfl
theorem Tryz.undStr:Tryz.prog.underlying 9=some .string:=by kernel_rfl
theorem wWrite_any {B b:Nat}{bs:List Value}{w:World}(s:ByteArray) (h:Lib.IsBuilderF 80 5 B b bs w) (hl:bs.length+s.size<=140737488355328) (hB:B<=w.heap.size) :
  Calls Tryz.prog 198 #[.pointer (some ⟨b,0,none⟩),.string s] w fun e w'=>e=.returned (.tuple #[.int .i64 s.size,.nilIface])/\Lib.IsBuilderF 80 5 B b (bs++Lib.strCells s) w'/\Below B w w'/\Lib.OthersKept 5 (some b) w w':=by
 obtain ⟨iu,hiu,hz,hs1,hb1⟩:=info_parts Tryz.infoU8
 have hch:=fun w' (hw:Lib.IsBuilderF 80 5 B b bs w')=>wCheck_any hw
 go_enter Tryz.func198,Tryz.ntmps198
 go_wp2_with (go_at_call 235;refine (hch _ h).mono ?_)
 rintro e w1 ⟨rfl,⟨hBb,v,hbk,how,hnb⟩,hb1',hk1⟩
 have hsz:=hb1'.size
 have hlt:b < w1.heap.size:=by
  apply Decidable.byContradiction
  intro hn
  rw [Array.getElem?_eq_none (by omega)] at hbk
  cases hbk
 have x0:w1.cell? ⟨b,0,none⟩=some (.pointer (some ⟨b,0,none⟩)):=by rw [Lib.cell_of_heap hbk];rfl
 have x1:w1.cell? ⟨b,1,none⟩=some v:=by rw [Lib.cell_of_heap hbk];rfl
 go_wp2_with (at_builtin;refine Lib.wpList_append_own_stringF _ rfl _ _ 76 9 rfl B 5 iu Tryz.undBs Tryz.undStr hiu hz hs1 hb1 _ _ _ rfl how s rfl ?q1 ?q2 ?q3 ?_)
 case q1=>unfold maxLen;omega
 case q2=>omega
 case q3=>omega
 intro v' w2 how2 hgr _
 have hbk2:w2.heap[b]?=some (.cells #[.pointer (some ⟨b,0,none⟩),v] 80 (0,0)):=(hgr.block b hlt (fun e=>hnb e.symm)).trans hbk
 have y0:w2.cell? ⟨b,0,none⟩=some (.pointer (some ⟨b,0,none⟩)):=by rw [Lib.cell_of_heap hbk2];rfl
 have y1:w2.cell? ⟨b,1,none⟩=some v:=by rw [Lib.cell_of_heap hbk2];rfl
 have yf:w2.frozen? ⟨b,1,none⟩=false:=Lib.frozen_of_heap hbk2 1
 obtain ⟨a2,n2,c2,rfl⟩:∃ a2 n2 c2,v'=.slice a2 n2 c2:=by
  rcases how2.2 with ⟨hv,_⟩|⟨g,cap,cur,fz,hv,_⟩
  ·exact ⟨_,_,_,hv⟩
  ·exact ⟨_,_,_,hv⟩
 go_wp2
 go_ret2
 refine ⟨rfl,.inr ?_,?_,?_⟩
 ·exact Lib.BuilderAtF.put (T:=80) (e:=5) hBb hbk2 (bs':=bs++Lib.strCells s) (by simpa [Lib.strCells_length] using how2) (by decide)
 ·exact (hb1'.grown hgr (by omega) (fun k hk=>(how.lt k hk).1)).setCell (p:=⟨b,1,none⟩) hBb _
 ·exact (hk1.grown hgr (Lib.ownsRowF_kind how)).setCell ⟨b,1,none⟩ rfl _
def wpL (l s:List UInt8):List UInt8:=if l.length<=12000 then l++s else l
abbrev Wx (B b:Nat) (l:List UInt8) (w w':World):Prop:=Wr B b l w'/\Below B w w'/\Lib.OthersKept 5 (some b) w w'
theorem Wx.trans {B b:Nat}{l l':List UInt8}{w w1 w2:World}(h:Wx B b l w w1) (k:Wx B b l' w1 w2):Wx B b l' w w2:=⟨k.1,h.2.1.trans k.2.1,h.2.2.trans k.2.2⟩
theorem put_any {B b:Nat}{l:List UInt8}{w:World}(s:ByteArray) (h:Wr B b l w) (hs:s.size<=140737488340000) (hB:B<=w.heap.size) :
  Calls Tryz.prog 138 #[.pointer (some ⟨b,0,none⟩),.string s] w fun e w'=>e=.returned (.tuple #[])/\Wx B b (wpL l (bl s)) w w':=by
 have hn:=wLen_any h
 rw [Lib.byteCells_length] at hn
 have hlen:=Lib.byteCells_length l
 by_cases hl:l.length<=12000
 ·have hw:=wWrite_any s h (by rw [hlen];omega) hB
  have e:wpL l (bl s)=l++bl s:=if_pos hl
  rw [e]
  have e2:Lib.byteCells (l++bl s)=Lib.byteCells l++Lib.strCells s:=Lib.byteCells_append _ _
  unfold Wx Wr
  rw [e2]
  have i1:(l.length:Int)<=12000:=by omega
  generalize Lib.byteCells l++Lib.strCells s=bs' at *
  generalize (l.length:Int)=n at *
  clear h hlen e e2 hl
  go_enter Tryz.func138,Tryz.ntmps138
  go_wp2_with (first
   | (go_at_call 197;refine hn.mono ?_;rintro e w1 ⟨rfl,hw1⟩;subst hw1)
   | (go_at_call 198;refine hw.mono ?_;rintro e w2 ⟨rfl,hr⟩)
   | fail)
  go_end0
  exact ⟨rfl,hr⟩
 ·have e:wpL l (bl s)=l:=if_neg hl
  rw [e]
  have HH:=mkHid h
  have i1:¬ (l.length:Int)<=12000:=by omega
  generalize (l.length:Int)=n at *
  clear h hlen e hl
  go_enter Tryz.func138,Tryz.ntmps138
  go_wp2_with (first
   | (go_at_call 197;refine hn.mono ?_;rintro e w1 ⟨rfl,hw1⟩;subst hw1)
   | fail)
  go_end0
  exact ⟨rfl,HH.out,Below.refl B _,Lib.OthersKept.refl _ _ _⟩
end Go.Proofs.YtfjdceknbdmhpaaGreatDoor
namespace Go.Proofs.YtfjdceknbdmhpaaGreatDoor
open Go.Shelf
set_option linter.unusedVariables false
def renR:Ren:={ f:=fun x=>match x with|105=>196|212=>232|99=>233|165=>234|166=>198|170=>197|169=>45|263=>257|264=>258|206=>259|240=>235|241=>260|276=>261|277=>275|n=>n,t:=fun x=>match x with|9=>9|3=>3|4=>4|20=>20|0=>0|46=>255|109=>277|5=>5|72=>78|76=>227|51=>253|146=>301|53=>212|148=>303|70=>75|37=>76|75=>226|127=>147|164=>305|80=>82|n=>n,g:=fun x=>x }
theorem laysR:Lays.n105 Tryz.prog renR:=
 {mixed:=by kernel_rfl,f99:=Tryz.func233.trans (congrArg some (by kernel_rfl)),f105:=Tryz.func196.trans (congrArg some (by kernel_rfl)),f165:=Tryz.func234.trans (congrArg some (by kernel_rfl)),f166:=Tryz.func198.trans (congrArg some (by kernel_rfl)),f169:=Tryz.func45.trans (congrArg some (by kernel_rfl)),f170:=Tryz.func197.trans (congrArg some (by kernel_rfl)),f206:=Tryz.func259.trans (congrArg some (by kernel_rfl)),f212:=Tryz.func232.trans (congrArg some (by kernel_rfl)),f240:=Tryz.func235.trans (congrArg some (by kernel_rfl)),f241:=Tryz.func260.trans (congrArg some (by kernel_rfl)),f263:=Tryz.func257.trans (congrArg some (by kernel_rfl)),f264:=Tryz.func258.trans (congrArg some (by kernel_rfl)),f276:=Tryz.func261.trans (congrArg some (by kernel_rfl)),f277:=Tryz.func275.trans (congrArg some (by kernel_rfl)),t0:=Tryz.underlying0,a0:=Tryz.isAgg0,z0:=Tryz.sizeOf0,v0:=Tryz.zeroValue0,t3:=Tryz.underlying3,a3:=Tryz.isAgg3,z3:=Tryz.sizeOf3,v3:=Tryz.zeroValue3,t4:=Tryz.underlying4,a4:=Tryz.isAgg4,z4:=Tryz.sizeOf4,v4:=Tryz.zeroValue4,t5:=Tryz.underlying5,a5:=Tryz.isAgg5,z5:=Tryz.sizeOf5,v5:=Tryz.zeroValue5,t9:=Tryz.underlying9,a9:=Tryz.isAgg9,z9:=Tryz.sizeOf9,v9:=Tryz.zeroValue9,t20:=Tryz.underlying20,a20:=Tryz.isAgg20,z20:=Tryz.sizeOf20,v20:=Tryz.zeroValue20,t37:=Tryz.underlying76,a37:=Tryz.isAgg76,z37:=Tryz.sizeOf76,v37:=Tryz.zeroValue76,t46:=Tryz.underlying255,a46:=Tryz.isAgg255,z46:=Tryz.sizeOf255,v46:=Tryz.zeroValue255,t51:=Tryz.underlying253,a51:=Tryz.isAgg253,z51:=Tryz.sizeOf253,v51:=Tryz.zeroValue253,t53:=Tryz.underlying212,a53:=Tryz.isAgg212,z53:=Tryz.sizeOf212,v53:=Tryz.zeroValue212,t70:=Tryz.underlying75,a70:=Tryz.isAgg75,z70:=Tryz.sizeOf75,v70:=Tryz.zeroValue75,t72:=Tryz.underlying78,a72:=Tryz.isAgg78,z72:=Tryz.sizeOf78,v72:=Tryz.zeroValue78,t75:=Tryz.underlying226,a75:=Tryz.isAgg226,z75:=Tryz.sizeOf226,v75:=Tryz.zeroValue226,t76:=Tryz.underlying227,a76:=Tryz.isAgg227,z76:=Tryz.sizeOf227,v76:=Tryz.zeroValue227,t109:=Tryz.underlying277,a109:=Tryz.isAgg277,z109:=Tryz.sizeOf277,v109:=Tryz.zeroValue277,t127:=Tryz.underlying147,a127:=Tryz.isAgg147,z127:=Tryz.sizeOf147,v127:=Tryz.zeroValue147,t146:=Tryz.underlying301,a146:=Tryz.isAgg301,z146:=Tryz.sizeOf301,v146:=Tryz.zeroValue301,t148:=Tryz.underlying303,a148:=Tryz.isAgg303,z148:=Tryz.sizeOf303,v148:=Tryz.zeroValue303,t164:=Tryz.underlying305,a164:=Tryz.isAgg305,z164:=Tryz.sizeOf305,v164:=Tryz.zeroValue305 }
end Go.Proofs.YtfjdceknbdmhpaaGreatDoor
namespace Go.Proofs.YtfjdceknbdmhpaaGreatDoor
open Go.RowKit Go.Lib
set_option linter.unusedSimpArgs false
set_option linter.unusedVariables false
attribute [local go_sem ↓] Go.wp_at_zero Go.wp_at_succ
theorem extraR:Builder.Extra Tryz.prog renR:={ sizeBuilder:=by kernel_rfl,liesBuilder:=by kernel_rfl,t5:=Tryz.underlying5,a5:=Tryz.isAgg5,z5:=Tryz.sizeOf5,v5:=Tryz.zeroValue5,infoByte:=by kernel_rfl,cellsByte:=by kernel_rfl,sizeByte:=by kernel_rfl,neB5:=by decide }
theorem others_below {e:TypeId}{bo:Option Nat}{w w':World}(hb:Below w.heap.size w w'):Lib.OthersKept e bo w w':=fun i o hi _ _=>by
 have hl:i < w.heap.size:=by
  apply Decidable.byContradiction
  intro hn
  rw [Array.getElem?_eq_none (by omega)] at hi
  cases hi
 exact (hb.block i hl).trans hi
theorem Wr.below {B b:Nat}{l:List UInt8}{w w':World}(h:Wr B b l w) (hb:Below w.heap.size w w'):Wr B b l w':=by
 have keep:∀ (i:Nat) (o:Obj),w.heap[i]?=some o->w'.heap[i]?=some o:=fun i o hi=>by
  have hl:i < w.heap.size:=by
   apply Decidable.byContradiction
   intro hn
   rw [Array.getElem?_eq_none (by omega)] at hi
   cases hi
  exact (hb.block i hl).trans hi
 have key:∀ p,Lib.BuilderAtF 80 5 B b p (Lib.byteCells l) w->Lib.BuilderAtF 80 5 B b p (Lib.byteCells l) w':=by
  rintro p ⟨h1,v,h2,⟨h3,h4⟩,h5⟩
  refine ⟨h1,v,keep _ _ h2,⟨h3,?_⟩,h5⟩
  rcases h4 with h4|⟨g,cap,cur,fz,a1,a2,a3,a4⟩
  ·exact .inl h4
  ·exact .inr ⟨g,cap,cur,fz,a1,a2,keep _ _ a3,a4⟩
 exact h.imp (key _) (key _)
theorem tabs_any (n:Nat) (hn:n<=1000) (w:World):Calls Tryz.prog 196 #[.string ⟨#[9]⟩,.int .i64 (n:Int)] w fun e w'=>e=.returned (.string ⟨(List.replicate n (9:UInt8)).toArray⟩)/\Below w.heap.size w w':=by
 have hs:(⟨#[9]⟩:ByteArray).size=1:=rfl
 have h:=Any.strings_Repeat laysR extraR ⟨#[9]⟩ n w (by omega) (by rw [hs];omega)
 have e:Lib.repeatL (⟨#[9]⟩:ByteArray).data.toList n=List.replicate n (9:UInt8):=by
  show Lib.repeatL [9] n=_
  clear h hn
  induction n with
  | zero=>rfl
  | succ n ih=>rw [List.replicate_succ,<- ih];rfl
 rw [e] at h
 exact h
theorem begin_any {B b:Nat}{l:List UInt8}{w:World}(n:Nat) (h:Wr B b l w) (hn:n<=1000) (hB:B<=w.heap.size) :
  Calls Tryz.prog 137 #[.pointer (some ⟨b,0,none⟩),.int .i64 (n:Int)] w fun e w'=>e=.returned (.tuple #[])/\Wx B b (wpL l (List.replicate n 9)) w w':=by
 have ht:=tabs_any n hn w
 have hp:∀ w1,Below w.heap.size w w1->Calls Tryz.prog 138 #[.pointer (some ⟨b,0,none⟩),.string ⟨(List.replicate n (9:UInt8)).toArray⟩] w1 fun e w'=>e=.returned (.tuple #[])/\Wx B b (wpL l (List.replicate n 9)) w w':=fun w1 b1=>by
  have h1:Wr B b l w1:=Wr.below h b1
  refine (put_any (l:=l) ⟨(List.replicate n (9:UInt8)).toArray⟩ h1 (by show (List.replicate n (9:UInt8)).toArray.size<=_;simp;omega) (Nat.le_trans hB b1.size)).mono ?_
  rintro e w' ⟨he,hw⟩
  refine ⟨he,?_,(b1.mono hB).trans hw.2.1,(others_below b1).trans hw.2.2⟩
  have e:bl (⟨(List.replicate n (9:UInt8)).toArray⟩:ByteArray)=List.replicate n 9:=by unfold bl;simp
  rw [e] at hw
  exact hw.1
 generalize (⟨(List.replicate n (9:UInt8)).toArray⟩:ByteArray)=t at *
 clear h
 go_enter Tryz.func137,Tryz.ntmps137
 go_wp2_with (first
  | (go_at_call 196;refine ht.mono ?_;rintro e w1 ⟨rfl,b1⟩)
  | (go_at_call 138;refine (hp _ b1).mono ?_;rintro e w2 ⟨rfl,hr⟩)
  | fail)
 go_end0
 exact ⟨rfl,hr⟩
theorem putX {B b:Nat}{w:World}(hB:B<=w.heap.size) (t:ByteArray) (l:List UInt8) (w1:World) (k:Wx B b l w w1) (ht:t.size<=140737488340000):Calls Tryz.prog 138 #[.pointer (some ⟨b,0,none⟩),.string t] w1 fun e w'=>e=.returned (.tuple #[])/\Wx B b (wpL l (bl t)) w w':=by
 refine (put_any t k.1 ht (Nat.le_trans hB k.2.1.size)).mono ?_
 rintro e w' ⟨he,hw⟩
 exact ⟨he,k.trans hw⟩
def wlL (l:List UInt8) (n:Nat) (s:List UInt8):List UInt8:=wpL (wpL (wpL l (List.replicate n 9)) s) [10]
theorem line_any {B b:Nat}{l:List UInt8}{w:World}(n:Nat) (s:ByteArray) (h:Wr B b l w) (hn:n<=1000) (hs:s.size<=140737488340000) (hB:B<=w.heap.size) :
  Calls Tryz.prog 79 #[.pointer (some ⟨b,0,none⟩),.int .i64 (n:Int),.string s] w fun e w'=>e=.returned (.tuple #[])/\Wx B b (wlL l n (bl s)) w w':=by
 have h1:=begin_any n h hn hB
 have hp:=fun t l' w1 k ht=>putX (B:=B) (b:=b) (w:=w) hB t l' w1 k ht
 have hd:(⟨#[10]⟩:ByteArray).size<=140737488340000:=by decide
 clear h
 go_enter Tryz.func79,Tryz.ntmps79
 go_wp2_with (first
  | (go_at_call 137;refine h1.mono ?_;rintro e w1 ⟨rfl,k⟩)
  | (go_at_call 138;refine (hp _ _ _ k (by assumption)).mono ?_;clear k;rintro e w2 ⟨rfl,k⟩)
  | fail)
 go_end0
 exact ⟨rfl,k⟩
theorem textO_any {x:Sx}(h:ExOk x) (hn:cntX x<=1000) (w:World) (hw:Pow w):Calls Tryz.prog 199 #[exX x] w fun e w'=>e=.returned (.string ⟨(prC x.1 x.2).1.toArray⟩)/\Below w.heap.size w w':=by
 have h1:=printP w h.1 (by unfold cntX at hn;exact hn) h.2.2 hw
 have h2:Calls Tryz.prog 208 #[exX x] w fun e w'=>e=.returned (.tuple #[.string ⟨(prC x.1 x.2).1.toArray⟩,.int .i64 (prC x.1 x.2).2])/\Below w.heap.size w w':=h1
 clear h1
 generalize exX x=v at *
 generalize (⟨(prC x.1 x.2).1.toArray⟩:ByteArray)=t at *
 generalize (prC x.1 x.2).2=n at *
 go_enter Tryz.func199,Tryz.ntmps199
 go_wp2_with (first
  | (go_at_call 208;refine h2.mono ?_;rintro e w1 ⟨rfl,b1⟩)
  | fail)
 go_ret
 exact ⟨rfl,b1⟩
theorem lineX {B b:Nat}{w:World}(hB:B<=w.heap.size) (n:Nat) (t:ByteArray) (l:List UInt8) (w1:World) (k:Wx B b l w w1) (hn:n<=1000) (ht:t.size<=140737488340000):Calls Tryz.prog 79 #[.pointer (some ⟨b,0,none⟩),.int .i64 (n:Int),.string t] w1 fun e w'=>e=.returned (.tuple #[])/\Wx B b (wlL l n (bl t)) w w':=by
 refine (line_any n t k.1 hn ht (Nat.le_trans hB k.2.1.size)).mono ?_
 rintro e w' ⟨he,hw⟩
 exact ⟨he,k.trans hw⟩
theorem beginX {B b:Nat}{w:World}(hB:B<=w.heap.size) (n:Nat) (l:List UInt8) (w1:World) (k:Wx B b l w w1) (hn:n<=1000):Calls Tryz.prog 137 #[.pointer (some ⟨b,0,none⟩),.int .i64 (n:Int)] w1 fun e w'=>e=.returned (.tuple #[])/\Wx B b (wpL l (List.replicate n 9)) w w':=by
 refine (begin_any n k.1 hn (Nat.le_trans hB k.2.1.size)).mono ?_
 rintro e w' ⟨he,hw⟩
 exact ⟨he,k.trans hw⟩
theorem Wx.on {B b:Nat}{l:List UInt8}{w w1 w2:World}(k:Wx B b l w w1) (hB:B<=w.heap.size) (h:Below w1.heap.size w1 w2):Wx B b l w w2:=⟨Wr.below k.1 h,k.2.1.trans (h.mono (Nat.le_trans hB k.2.1.size)),k.2.2.trans (others_below h)⟩
end Go.Proofs.YtfjdceknbdmhpaaGreatDoor
namespace Go.Proofs.YtfjdceknbdmhpaaGreatDoor
open Go.Shelf
set_option linter.unusedVariables false
def renI:Ren:={ f:=fun x=>match x with|171=>47|243=>84|246=>85|283=>147|284=>148|285=>149|286=>150|129=>201|317=>200|318=>202|319=>203|320=>204|337=>236|338=>237|n=>n,t:=fun x=>match x with|3=>3|9=>9|2=>2|4=>4|171=>211|0=>0|53=>212|37=>76|5=>5|173=>215|212=>252|51=>253|20=>20|213=>254|46=>255|232=>307|233=>308|n=>n,g:=fun x=>match x with|17=>0|18=>3|19=>4|n=>n }
theorem laysI:LaysM.n171 Tryz.prog renI:=
 {mixed:=by kernel_rfl,f129:=Tryz.func201.trans (congrArg some (by kernel_rfl)),f171:=Tryz.func47.trans (congrArg some (by kernel_rfl)),f243:=Tryz.func84.trans (congrArg some (by kernel_rfl)),f246:=Tryz.func85.trans (congrArg some (by kernel_rfl)),f283:=Tryz.func147.trans (congrArg some (by kernel_rfl)),f284:=Tryz.func148.trans (congrArg some (by kernel_rfl)),f285:=Tryz.func149.trans (congrArg some (by kernel_rfl)),f286:=Tryz.func150.trans (congrArg some (by kernel_rfl)),f317:=Tryz.func200.trans (congrArg some (by kernel_rfl)),f318:=Tryz.func202.trans (congrArg some (by kernel_rfl)),f319:=Tryz.func203.trans (congrArg some (by kernel_rfl)),f320:=Tryz.func204.trans (congrArg some (by kernel_rfl)),f337:=Tryz.func236.trans (congrArg some (by kernel_rfl)),f338:=Tryz.func237.trans (congrArg some (by kernel_rfl)),t0:=Tryz.underlying0,a0:=Tryz.isAgg0,z0:=Tryz.sizeOf0,v0:=Tryz.zeroValue0,t2:=Tryz.underlying2,a2:=Tryz.isAgg2,z2:=Tryz.sizeOf2,v2:=Tryz.zeroValue2,t3:=Tryz.underlying3,a3:=Tryz.isAgg3,z3:=Tryz.sizeOf3,v3:=Tryz.zeroValue3,t4:=Tryz.underlying4,a4:=Tryz.isAgg4,z4:=Tryz.sizeOf4,v4:=Tryz.zeroValue4,t5:=Tryz.underlying5,a5:=Tryz.isAgg5,z5:=Tryz.sizeOf5,v5:=Tryz.zeroValue5,t9:=Tryz.underlying9,a9:=Tryz.isAgg9,z9:=Tryz.sizeOf9,v9:=Tryz.zeroValue9,t20:=Tryz.underlying20,a20:=Tryz.isAgg20,z20:=Tryz.sizeOf20,v20:=Tryz.zeroValue20,t37:=Tryz.underlying76,a37:=Tryz.isAgg76,z37:=Tryz.sizeOf76,v37:=Tryz.zeroValue76,t46:=Tryz.underlying255,a46:=Tryz.isAgg255,z46:=Tryz.sizeOf255,v46:=Tryz.zeroValue255,t51:=Tryz.underlying253,a51:=Tryz.isAgg253,z51:=Tryz.sizeOf253,v51:=Tryz.zeroValue253,t53:=Tryz.underlying212,a53:=Tryz.isAgg212,z53:=Tryz.sizeOf212,v53:=Tryz.zeroValue212,t171:=Tryz.underlying211,a171:=Tryz.isAgg211,z171:=Tryz.sizeOf211,v171:=Tryz.zeroValue211,t173:=Tryz.underlying215,a173:=Tryz.isAgg215,z173:=Tryz.sizeOf215,v173:=Tryz.zeroValue215,t212:=Tryz.underlying252,a212:=Tryz.isAgg252,z212:=Tryz.sizeOf252,v212:=Tryz.zeroValue252,t213:=Tryz.underlying254,a213:=Tryz.isAgg254,z213:=Tryz.sizeOf254,t232:=Tryz.underlying307,a232:=Tryz.isAgg307,z232:=Tryz.sizeOf307,v232:=Tryz.zeroValue307,t233:=Tryz.underlying308,a233:=Tryz.isAgg308,z233:=Tryz.sizeOf308,v233:=Tryz.zeroValue308,g17:=by kernel_rfl,g18:=by kernel_rfl,g19:=by kernel_rfl,i0:=by kernel_rfl,i2:=by kernel_rfl,i3:=by kernel_rfl,i4:=by kernel_rfl,i5:=by kernel_rfl,i9:=by kernel_rfl,i20:=by kernel_rfl,i37:=by kernel_rfl,i46:=by kernel_rfl,i51:=by kernel_rfl,i53:=by kernel_rfl,i171:=by kernel_rfl,i173:=by kernel_rfl,i212:=by kernel_rfl,i232:=by kernel_rfl,i233:=by kernel_rfl,m17:=by kernel_rfl,m18:=by kernel_rfl,m19:=by kernel_rfl }
end Go.Proofs.YtfjdceknbdmhpaaGreatDoor
namespace Go.Proofs.YtfjdceknbdmhpaaGreatDoor
open Go.RowKit Go.Lib
set_option linter.unusedSimpArgs false
set_option linter.unusedVariables false
attribute [local go_sem ↓] Go.wp_at_zero Go.wp_at_succ
theorem itoa_any {n:Int}(h0:0<=n) (h1:n<=1000000000) (w:World) (hp:Pow w) :
  Calls Tryz.prog 47 #[.int .i64 n] w fun e w'=>e=.returned (.string ⟨(dcN n).toArray⟩)/\Below w.heap.size w w':=by
 refine (Go.Proofs.Any.strconv_Itoa laysI n (by omega) (by omega) w hp).mono ?_
 rintro e w' ⟨rfl,k,os,rfl⟩
 refine ⟨?_,below_grow _ w Nat.le.refl k os⟩
 unfold Lib.itoa dcN
 rw [if_neg (by omega)]
theorem fmtZ_any {n:Int}(h0 : -1000000000<=n) (h1:n<=1000000000) (w:World) (hp:Pow w) :
  Calls Tryz.prog 48 #[.int .i64 n,.int .i64 10] w fun e w'=>e=.returned (.string ⟨(if n < 0 then 45 :: dcN (-n) else dcN n).toArray⟩)/\Below w.heap.size w w':=by
 refine (Go.Proofs.Any.strconv_FormatInt_10 laysF n (by omega) (by omega) w hp).mono ?_
 rintro e w' ⟨rfl,k,os,rfl⟩
 refine ⟨?_,below_grow _ w Nat.le.refl k os⟩
 unfold Lib.itoa dcN
 by_cases h:n < 0
 ·rw [if_pos h,if_pos h,show n.natAbs=(-n).toNat from by omega]
 ·rw [if_neg h,if_neg h]
theorem kind_all {B b:Nat}{l:List UInt8}{w:World}(n:Nat) (sn:ByteArray) (sl sc:Int) (se:Bool) (sd su:ByteArray) (sw sr:Int) (p1:Option Addr) (m p3:Nat) (p4:Option Addr) (ni p6:Nat) (h:Wr B b l w) (hB:B<=w.heap.size) (hn:n<=1000)  : Calls Tryz.prog 139 #[.pointer (some ⟨b,0,none⟩),.int .i64 (n:Int),.agg #[.string sn,.int .i64 sl,.int .i64 sc,.bool true,.bool se,.string sd,.string su,.int .i64 sw,.int .i64 sr,.slice p1 m p3,.slice p4 ni p6]] w fun e w'=>e=.returned (.tuple #[])/\Wx B b (wlL l n [97,108,108]) w w':=by
 have hal:Below w.heap.size w (w.alloc (.cells #[.string sn,.int .i64 sl,.int .i64 sc,.bool true,.bool se,.string sd,.string su,.int .i64 sw,.int .i64 sr,.slice p1 m p3,.slice p4 ni p6] 55)):=(Below.refl w.heap.size w).alloc Nat.le.refl _
 have hX:Bn (w.alloc (.cells #[.string sn,.int .i64 sl,.int .i64 sc,.bool true,.bool se,.string sd,.string su,.int .i64 sw,.int .i64 sr,.slice p1 m p3,.slice p4 ni p6] 55)) w.heap.size [.string sn,.int .i64 sl,.int .i64 sc,.bool true,.bool se,.string sd,.string su,.int .i64 sw,.int .i64 sr,.slice p1 m p3,.slice p4 ni p6]:=Bn.new w [.string sn,.int .i64 sl,.int .i64 sc,.bool true,.bool se,.string sd,.string su,.int .i64 sw,.int .i64 sr,.slice p1 m p3,.slice p4 ni p6] 55 _ rfl
 have k0:Wx B b l w (w.alloc (.cells #[.string sn,.int .i64 sl,.int .i64 sc,.bool true,.bool se,.string sd,.string su,.int .i64 sw,.int .i64 sr,.slice p1 m p3,.slice p4 ni p6] 55)):=⟨Wr.below h hal,hal.mono hB,others_below hal⟩
 have hl:=lineX hB n ⟨#[97,108,108]⟩ l _ k0 hn (by decide)
 clear k0
 go_enter Tryz.func139,Tryz.ntmps139
 go_upto_region 1 with fail
 generalize (w.alloc (.cells #[.string sn,.int .i64 sl,.int .i64 sc,.bool true,.bool se,.string sd,.string su,.int .i64 sw,.int .i64 sr,.slice p1 m p3,.slice p4 ni p6] 55))=wx at *
 clear h
 have x3:=(hX 3 _ rfl).1
 go_wp2_with (first
  | (go_at_call 79;refine hl.mono ?_;rintro e w2 ⟨rfl,k⟩)
  | fail)
 go_end0
 exact ⟨rfl,k⟩
theorem kind_end {B b:Nat}{l:List UInt8}{w:World}(n:Nat) (sn:ByteArray) (sl sc:Int) (sd su:ByteArray) (sw sr:Int) (p1:Option Addr) (m p3:Nat) (p4:Option Addr) (ni p6:Nat) (h:Wr B b l w) (hB:B<=w.heap.size) (hn:n<=1000)  : Calls Tryz.prog 139 #[.pointer (some ⟨b,0,none⟩),.int .i64 (n:Int),.agg #[.string sn,.int .i64 sl,.int .i64 sc,.bool false,.bool true,.string sd,.string su,.int .i64 sw,.int .i64 sr,.slice p1 m p3,.slice p4 ni p6]] w fun e w'=>e=.returned (.tuple #[])/\Wx B b (wlL l n [101,110,100]) w w':=by
 have hal:Below w.heap.size w (w.alloc (.cells #[.string sn,.int .i64 sl,.int .i64 sc,.bool false,.bool true,.string sd,.string su,.int .i64 sw,.int .i64 sr,.slice p1 m p3,.slice p4 ni p6] 55)):=(Below.refl w.heap.size w).alloc Nat.le.refl _
 have hX:Bn (w.alloc (.cells #[.string sn,.int .i64 sl,.int .i64 sc,.bool false,.bool true,.string sd,.string su,.int .i64 sw,.int .i64 sr,.slice p1 m p3,.slice p4 ni p6] 55)) w.heap.size [.string sn,.int .i64 sl,.int .i64 sc,.bool false,.bool true,.string sd,.string su,.int .i64 sw,.int .i64 sr,.slice p1 m p3,.slice p4 ni p6]:=Bn.new w [.string sn,.int .i64 sl,.int .i64 sc,.bool false,.bool true,.string sd,.string su,.int .i64 sw,.int .i64 sr,.slice p1 m p3,.slice p4 ni p6] 55 _ rfl
 have k0:Wx B b l w (w.alloc (.cells #[.string sn,.int .i64 sl,.int .i64 sc,.bool false,.bool true,.string sd,.string su,.int .i64 sw,.int .i64 sr,.slice p1 m p3,.slice p4 ni p6] 55)):=⟨Wr.below h hal,hal.mono hB,others_below hal⟩
 have hl:=lineX hB n ⟨#[101,110,100]⟩ l _ k0 hn (by decide)
 clear k0
 go_enter Tryz.func139,Tryz.ntmps139
 go_upto_region 1 with fail
 generalize (w.alloc (.cells #[.string sn,.int .i64 sl,.int .i64 sc,.bool false,.bool true,.string sd,.string su,.int .i64 sw,.int .i64 sr,.slice p1 m p3,.slice p4 ni p6] 55))=wx at *
 clear h
 have x3:=(hX 3 _ rfl).1
 have x4:=(hX 4 _ rfl).1
 go_wp2_with (first
  | (go_at_call 79;refine hl.mono ?_;rintro e w2 ⟨rfl,k⟩)
  | fail)
 go_end0
 exact ⟨rfl,k⟩
theorem kind_no {B b:Nat}{l:List UInt8}{w:World}(n:Nat) (sn:ByteArray) (sl sc:Int) (sd su:ByteArray) (sw sr:Int) (p1:Option Addr) (m p3:Nat) (p4:Option Addr) (ni p6:Nat) (h:Wr B b l w) (hB:B<=w.heap.size) (hn:n<=1000) (hd:sd.toList=[]):Calls Tryz.prog 139 #[.pointer (some ⟨b,0,none⟩),.int .i64 (n:Int),.agg #[.string sn,.int .i64 sl,.int .i64 sc,.bool false,.bool false,.string sd,.string su,.int .i64 sw,.int .i64 sr,.slice p1 m p3,.slice p4 ni p6]] w fun e w'=>e=.returned (.tuple #[])/\Wx B b (l) w w':=by
 have hal:Below w.heap.size w (w.alloc (.cells #[.string sn,.int .i64 sl,.int .i64 sc,.bool false,.bool false,.string sd,.string su,.int .i64 sw,.int .i64 sr,.slice p1 m p3,.slice p4 ni p6] 55)):=(Below.refl w.heap.size w).alloc Nat.le.refl _
 have hX:Bn (w.alloc (.cells #[.string sn,.int .i64 sl,.int .i64 sc,.bool false,.bool false,.string sd,.string su,.int .i64 sw,.int .i64 sr,.slice p1 m p3,.slice p4 ni p6] 55)) w.heap.size [.string sn,.int .i64 sl,.int .i64 sc,.bool false,.bool false,.string sd,.string su,.int .i64 sw,.int .i64 sr,.slice p1 m p3,.slice p4 ni p6]:=Bn.new w [.string sn,.int .i64 sl,.int .i64 sc,.bool false,.bool false,.string sd,.string su,.int .i64 sw,.int .i64 sr,.slice p1 m p3,.slice p4 ni p6] 55 _ rfl
 have k0:Wx B b l w (w.alloc (.cells #[.string sn,.int .i64 sl,.int .i64 sc,.bool false,.bool false,.string sd,.string su,.int .i64 sw,.int .i64 sr,.slice p1 m p3,.slice p4 ni p6] 55)):=⟨Wr.below h hal,hal.mono hB,others_below hal⟩
 go_enter Tryz.func139,Tryz.ntmps139
 go_upto_region 1 with fail
 generalize (w.alloc (.cells #[.string sn,.int .i64 sl,.int .i64 sc,.bool false,.bool false,.string sd,.string su,.int .i64 sw,.int .i64 sr,.slice p1 m p3,.slice p4 ni p6] 55))=wx at *
 clear h
 have x3:=(hX 3 _ rfl).1
 have x4:=(hX 4 _ rfl).1
 have x5:=(hX 5 _ rfl).1
 go_wp2
 go_end0
 exact ⟨rfl,k0⟩
theorem wpL_stop:∀ (cs:List (List UInt8)) (l:List UInt8),12000 < l.length->cs.foldl wpL l=l
 | [],_,_=>rfl
 | c :: cs,l,h=>by
  have e:wpL l c=l:=if_neg (by omega)
  rw [List.foldl_cons,e]
  exact wpL_stop cs l h
theorem wpL_all:∀ (cs:List (List UInt8)) (l:List UInt8),(l++cs.flatten).length<=12000->cs.foldl wpL l=l++cs.flatten
 | [],l,_=>by simp
 | c :: cs,l,h=>by
  rw [List.flatten_cons,<- List.append_assoc] at h ⊢
  have h1:l.length<=12000:=by rw [List.length_append,List.length_append] at h;omega
  have e:wpL l c=l++c:=if_pos h1
  rw [List.foldl_cons,e]
  exact wpL_all cs (l++c) h
theorem wpL_long:∀ (cs:List (List UInt8)) (l:List UInt8),12000 < (l++cs.flatten).length->12000 < (cs.foldl wpL l).length
 | [],l,h=>by simpa using h
 | c :: cs,l,h=>by
  by_cases h1:l.length<=12000
  ·have e:wpL l c=l++c:=if_pos h1
   rw [List.foldl_cons,e]
   refine wpL_long cs (l++c) ?_
   rw [List.flatten_cons,<- List.append_assoc] at h
   exact h
  ·rw [wpL_stop (c :: cs) l (by omega)]
   omega
theorem kw_sp {s:List UInt8}(h:nameS s=true) {r:List Pq}{post:List UInt8}(hr:FitQ r post):FitQ (kwQ s :: spQ :: r) post:=
 ⟨show Fits (1,s) (32 :: (txQ r++post)) from fits_name h (post_blank _),.inl rfl,hr⟩
theorem kw_nl {s:List UInt8}(h:nameS s=true) {r:List Pq}{post:List UInt8}(hr:FitQ r post):FitQ (kwQ s :: nlQ :: r) post:=
 ⟨show Fits (1,s) (10 :: (txQ r++post)) from fits_name h (post_line _),.inr (.inr rfl),hr⟩
theorem nu_sp {n:Int}(h:nbB n=true) {r:List Pq}{post:List UInt8}(hr:FitQ r post):FitQ (nuQ n :: spQ :: r) post:=by
 unfold nbB at h
 rw [decide_eq_true_eq] at h
 exact ⟨show Fits (2,dcN n) (32 :: (txQ r++post)) from (fits_num (num_dc h.1 h.2) (post_blank _)).1,.inl rfl,hr⟩
theorem nu_nl {n:Int}(h:0<=n/\n<=1000000000) {r:List Pq}{post:List UInt8}(hr:FitQ r post):FitQ (nuQ n :: nlQ :: r) post:=
 ⟨show Fits (2,dcN n) (10 :: (txQ r++post)) from (fits_num (num_dc h.1 h.2) (post_line _)).1,.inr (.inr rfl),hr⟩
theorem br_nl {c:UInt8}(h:c=123∨c=125) {r:List Pq}{post:List UInt8}(hr:FitQ r post):FitQ (sgQ c :: nlQ :: r) post:=
 ⟨fits_brace h _,.inr (.inr rfl),hr⟩
theorem eq_sp {r:List Pq}{post:List UInt8}(hr:FitQ r post):FitQ (sgQ 61 :: spQ :: r) post:=
 ⟨show Fits (3,[61]) (32 :: (txQ r++post)) from fits_eq _,.inl rfl,hr⟩
theorem post_sets (l:List (List UInt8 × Sx)) {post:List UInt8}(h:Post post):Post (txQ ((l.map setQ).flatten)++post):=by
 cases l with
 | nil=>exact h
 | cons s r=>
  rw [List.map_cons,List.flatten_cons,txQ_app,List.append_assoc]
  exact post_blank _
theorem fitQ_set {s:List UInt8 × Sx}(hf:setF s=true) (hc:ClX s.2) {post:List UInt8}(h:Post post):FitQ (setQ s) post:=by
 unfold setF at hf
 rw [Bool.and_eq_true] at hf
 exact ⟨.inl rfl,kw_sp (by decide) (kw_sp (plain_name hf.1) (eq_sp (fitQ_ex hc hf.2 h)))⟩
theorem fitQ_sets:∀ (l:List (List UInt8 × Sx)),l.all setF=true->(∀ s∈l,ClX s.2)->∀ {post:List UInt8},Post post->FitQ ((l.map setQ).flatten) post
 | [],_,_,_,_=>trivial
 | s :: r,hf,hc,post,h=>by
  rw [List.all_cons,Bool.and_eq_true] at hf
  rw [List.map_cons,List.flatten_cons]
  exact fitQ_app _ _ _ (fitQ_set hf.1 (hc s List.mem_cons_self) (post_sets r h)) (fitQ_sets r hf.2 (fun x hx=>hc x (List.mem_cons_of_mem _ hx)) h)
theorem onF_parts {o:OnC}(h:onF o=true):plainB o.1=true/\(o.2.1.1=true->exF o.2.1.2=true)/\plainB o.2.2.1=true/\o.2.2.2.1.all setF=true:=by
 unfold onF at h
 simp only [Bool.and_eq_true,Bool.or_eq_true,Bool.not_eq_true'] at h
 exact ⟨h.1,fun e=>h.2.1.elim (fun q=>by rw [e] at q;cases q) id,h.2.2.1,h.2.2.2⟩
theorem fitQ_on {o:OnC}(n:Nat) (hf:onF o=true) (hc:OnCl o) (post:List UInt8):FitQ (onQ n o) post:=by
 obtain ⟨h1,h2,h3,h4⟩:=onF_parts hf
 have e1:FitQ ((o.2.2.2.1.map setQ).flatten++[nlQ]) post:=fitQ_app _ _ _ (fitQ_sets _ h4 hc.2 (post_line _)) ⟨.inr (.inr rfl),trivial⟩
 have hp:Post (txQ ((o.2.2.2.1.map setQ).flatten++[nlQ])++post):=by
  rw [txQ_app,List.append_assoc]
  exact post_sets _ (post_line _)
 have e2:FitQ ([spQ,kwQ wGo,spQ,kwQ o.2.2.1]++((o.2.2.2.1.map setQ).flatten++[nlQ])) post:=⟨.inl rfl,kw_sp (by decide) ⟨fits_name (plain_name h3) hp,e1⟩⟩
 have hp2:Post (txQ ([spQ,kwQ wGo,spQ,kwQ o.2.2.1]++((o.2.2.2.1.map setQ).flatten++[nlQ]))++post):=by
  rw [txQ_app,List.append_assoc]
  exact post_blank _
 have e3:FitQ (grdQ o.2.1++([spQ,kwQ wGo,spQ,kwQ o.2.2.1]++((o.2.2.2.1.map setQ).flatten++[nlQ]))) post:=by
  unfold grdQ
  split
  ·next hb=>exact fitQ_app _ _ _ ⟨.inl rfl,kw_sp (by decide) (fitQ_ex (hc.1 hb) (h2 hb) hp2)⟩ e2
  ·exact e2
 have hp3:Post (txQ (grdQ o.2.1++([spQ,kwQ wGo,spQ,kwQ o.2.2.1]++((o.2.2.2.1.map setQ).flatten++[nlQ])))++post):=by
  unfold grdQ
  split
  ·rw [txQ_app,List.append_assoc]
   exact post_blank _
  ·exact hp2
 exact fitQ_app _ _ _ (fitQ_tb n _) (kw_sp (by decide) ⟨fits_name (plain_name h1) hp3,e3⟩)
theorem fitQ_all {α:Type}{f:α->List Pq}:∀ (l:List α),(∀ x∈l,∀ post,FitQ (f x) post)->∀ post,FitQ ((l.map f).flatten) post
 | [],_,_=>trivial
 | x :: r,h,post=>by
  rw [List.map_cons,List.flatten_cons]
  exact fitQ_app _ _ _ (h x List.mem_cons_self _) (fitQ_all r (fun y hy=>h y (List.mem_cons_of_mem _ hy)) post)
theorem kndF_step {h:HdC}(hf:kndF h=true) (hs:stepB h=true):h.2.1.1=false/\h.2.1.2=false/\plainB h.2.2.1.1=true/\plainB h.2.2.1.2=true/\nbB h.2.2.2.1.1=true/\nbB h.2.2.2.1.2=true:=by
 unfold kndF at hf
 rw [if_pos hs] at hf
 simp only [Bool.and_eq_true,Bool.not_eq_true'] at hf
 exact ⟨hf.1.1.1.1.1,hf.1.1.1.1.2,hf.1.1.1.2,hf.1.1.2,hf.1.2,hf.2⟩
theorem step_do {h:HdC}(hd:h.2.2.1.1≠[]):stepB h=true:=by
 unfold stepB
 rw [decide_eq_false hd];rfl
theorem nb_of {n:Int}(h:nbB n=true):0<=n/\n<=1000000000:=by
 unfold nbB at h
 rwa [decide_eq_true_eq] at h
theorem fitQ_knd {h:HdC}(n:Nat) (hf:kndF h=true) (post:List UInt8):FitQ (kndQ n h) post:=by
 unfold kndQ
 split
 ·exact fitQ_app _ _ _ (fitQ_tb n _) (kw_nl (by decide) trivial)
 ·split
  ·exact fitQ_app _ _ _ (fitQ_tb n _) (kw_nl (by decide) trivial)
  ·split
   ·next hd=>
    obtain ⟨_,_,h3,h4,h5,h6⟩:=kndF_step hf (step_do hd)
    exact fitQ_app _ _ _ (fitQ_tb n _) (kw_sp (by decide) (kw_sp (plain_name h3) (kw_sp (by decide) (kw_sp (plain_name h4) (kw_sp (by decide) (nu_sp h5 (kw_sp (by decide) (nu_nl (nb_of h6) trivial))))))))
   ·trivial
theorem stF_parts {d:Nat}{n:Nat}{t:St (d+1)}(h:stF (d+1) n t=true):n<=6/\plainB t.1.1.1=true/\kndF t.1=true/\t.1.2.2.2.2.all onF=true/\t.2.all (stF d (n+1))=true:=by
 have h':(decide (n<=6) && plainB t.1.1.1 && kndF t.1 && t.1.2.2.2.2.all onF && t.2.all (stF d (n+1)))=true:=h
 simp only [Bool.and_eq_true,decide_eq_true_eq] at h'
 exact ⟨h'.1.1.1.1,h'.1.1.1.2,h'.1.1.2,h'.1.2,h'.2⟩
theorem fitQ_st:∀ (d n:Nat) (t:St d),stF d n t=true->StCl d t->∀ post,FitQ (stQ d n t) post
 | 0,_,t,_,_=>Empty.elim t
 | d+1,n,t,hf,hc=>fun post=>by
  obtain ⟨h1,h2,h3,h4,h5⟩:=stF_parts hf
  rw [List.all_eq_true] at h4 h5
  have e1:FitQ (tbQ n++[sgQ 125,nlQ]) post:=fitQ_app _ _ _ (fitQ_tb n _) (br_nl (.inr rfl) trivial)
  have e2:FitQ ((t.2.map (stQ d (n+1))).flatten++(tbQ n++[sgQ 125,nlQ])) post:=fitQ_app _ _ _ (fitQ_all _ (fun x hx=>fitQ_st d (n+1) x (h5 x hx) (hc.2 x hx)) _) e1
  have e3:FitQ ((t.1.2.2.2.2.map (onQ (n+1))).flatten++((t.2.map (stQ d (n+1))).flatten++(tbQ n++[sgQ 125,nlQ]))) post:=fitQ_app _ _ _ (fitQ_all _ (fun x hx=>fitQ_on (n+1) (h4 x hx) (hc.1 x hx)) _) e2
  have e4:=fitQ_app _ _ _ (fitQ_knd (n+1) h3 _) e3
  exact fitQ_app _ _ _ (fitQ_tb n _) (kw_sp (by decide) (kw_sp (plain_name h2) (br_nl (.inl rfl) e4)))
theorem fitQ_var {v:List UInt8 × Int × Pl}(hf:varF v=true) (post:List UInt8):FitQ (varQ v) post:=by
 unfold varF at hf
 rw [Bool.and_eq_true,decide_eq_true_eq] at hf
 have e1:FitQ (nmQ v.2.1++[nlQ]) post:=by
  unfold nmQ
  split
  ·exact ⟨fits_neg _,nu_nl (by omega) trivial⟩
  ·exact nu_nl (by omega) trivial
 exact fitQ_app _ _ _ (fitQ_tb 1 _) (kw_sp (by decide) (kw_sp (plain_name hf.1) (eq_sp e1)))
theorem chF_parts {d:Nat}{c:ChX d}(h:chF d c=true):plainB c.1.1=true/\nbB c.2.1=true/\c.2.2.1.all varF=true/\c.2.2.2.all (stF d 1)=true:=by
 unfold chF at h
 simp only [Bool.and_eq_true] at h
 exact ⟨h.1.1.1,h.1.1.2,h.1.2,h.2⟩
theorem fitQ_ch {d:Nat}{c:ChX d}(hf:chF d c=true) (hc:∀ t∈c.2.2.2,StCl d t):FitQ (chQ d c) []:=by
 obtain ⟨h1,h2,h3,h4⟩:=chF_parts hf
 rw [List.all_eq_true] at h3 h4
 have e1:FitQ [sgQ 125,nlQ] []:=br_nl (.inr rfl) trivial
 have e2:=fitQ_app _ _ _ (fitQ_all _ (fun x hx=>fitQ_st d 1 x (h4 x hx) (hc x hx)) _) e1
 have e3:=fitQ_app _ _ _ (fitQ_all _ (fun x hx=>fitQ_var (h3 x hx)) _) e2
 exact kw_sp (by decide) (kw_sp (plain_name h1) (nu_sp h2 (br_nl (.inl rfl) e3)))
