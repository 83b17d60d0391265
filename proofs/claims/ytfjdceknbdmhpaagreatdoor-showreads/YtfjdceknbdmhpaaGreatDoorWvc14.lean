import Derived.Test.YtfjdceknbdmhpaaGreatDoorWvc13
import Derived.Lib.FrozenHead
import Derived.Lib.OthersKept
import Derived.Shelf.Strings.Repeat
import Derived.Test.YtfjdceknbdmhpaaGreatDoorRows
/- What the program's each is over states. -/
namespace Go.Proofs.YtfjdceknbdmhpaaGreatDoor
open Go.RowKit Go.Lib
set_option linter.unusedSimpArgs false
set_option linter.unusedVariables false
attribute [local go_sem ↓] Go.wp_at_zero Go.wp_at_succ
theorem Tryz.infoESt:(Tryz.prog.info? 55).map (fun i=>(i.zero,i.size,i.bytes))=some (some (.agg #[.string ⟨#[]⟩,.int .i64 0,.int .i64 0,.bool false,.bool false,.string ⟨#[]⟩,.string ⟨#[]⟩,.int .i64 0,.int .i64 0,.slice none 0 0,.slice none 0 0]),11,136):=by kernel_rfl
def stH (h:HdC):HdC:=((h.1.1,(0,0)),h.2.1,h.2.2.1,h.2.2.2.1,h.2.2.2.2.map stO)
def HdOk (h:HdC):Prop:=h.1.1.length≤140737488351232∧h.2.2.1.1.length≤140737488351232∧h.2.2.1.2.length≤140737488351232∧h.2.2.2.2.length≤100000∧∀ o∈h.2.2.2.2,OnOk o
/-- A state stripped by itself: what lies in it is as it was, in the memory that was. -/
def rHf (d:Nat) (okO:Nat→Prop) (w0:World) (ok:Nat→Prop) (w:World) (t:St (d+1)) (cs:List Value):Prop:=∃ so si,cs=hdV (stH t.1) so si∧RdK ok w 6 (rOn ok w) (t.1.2.2.2.2.map stO) so∧RdK okO w0 11 (rSt d okO w0) t.2 si
theorem kp_hf (d:Nat) (okO:Nat→Prop) (w0:World):Kp (rHf d okO w0):=fun _ _ _ _ _ _ ⟨so,si,h,h1,h2⟩ hk=>⟨so,si,h,h1.stay kp_on hk,h2⟩
theorem stQ_at {ok:Nat→Prop} {w:World} {d:Nat} {l:List (St (d+1))} {a:Option Addr} {n cap:Nat} (h:RdK ok w 11 (rSt (d+1) ok w) l (.slice a n cap)) (j:Nat) (hj:j < l.length):∃ b off p1 p3 p4 p6,a=some ⟨b,off,none⟩∧b < w.heap.size∧RdK ok w 6 (rOn ok w) l[j].1.2.2.2.2 (.slice p1 l[j].1.2.2.2.2.length p3)∧RdK ok w 11 (rSt d ok w) l[j].2 (.slice p4 l[j].2.length p6)∧∀ i u,(hdV l[j].1 (.slice p1 l[j].1.2.2.2.2.length p3) (.slice p4 l[j].2.length p6))[i]?=some u→w.cell? ⟨b,off+j*11+i,none⟩=some u:=by
 obtain ⟨a1,cap1,he,h1,h2,h3⟩:=h
 simp only [Value.slice.injEq] at he
 obtain ⟨rfl,rfl,rfl⟩:=he
 obtain ⟨b,off,cs,ha,_,hb,hl,⟨so,si,rfl,hs,hi⟩,hc⟩:=h3 j hj
 obtain ⟨s1,s3,rfl,_⟩:=hs.form
 obtain ⟨s4,s6,rfl,_⟩:=hi.form
 exact ⟨b,off,s1,s3,s4,s6,ha,hb,hs,hi,hc⟩
set_option maxRecDepth 100000 in
set_option maxHeartbeats 8000000 in
theorem eachSt_any {d:Nat} {ok:Nat→Prop} {w:World} {l:List (St (d+1))} {v:Value} (h:RdK ok w 11 (rSt (d+1) ok w) l v) (hl:l.length≤100000) (hok:∀ s∈l,HdOk s.1) :
  Calls Tryz.prog 41 #[v,.func (.func 42) #[] #[]] w fun e w'=>e=.returned (.slice (some ⟨w.heap.size,0,none⟩) l.length l.length)∧RowG w' w.heap.size 11 l.length (rHf d ok w) (l)∧Below w.heap.size w w'∧w.heap.size < w'.heap.size:=by
 obtain ⟨ie,hie,hie0,hie1,hie2⟩:=info_parts Tryz.infoESt
 obtain ⟨a,cap,rfl,hlc,hcm⟩:=h.form
 unfold maxLen at hcm
 have HC:=mkHid h
 have HK:=mkHid hok
 obtain ⟨n,hn⟩:∃ n,l.length=n:=⟨_,rfl⟩
 rw [hn] at hlc hl ⊢
 have HN:Hid (l.length=n):=hn
 clear h hok hn
 have hmk:=run_make (P:=Tryz.prog) w 31 55 ie _ Tryz.underlying31 hie hie0 .i64 .i64 (n:Int) (n:Int) (by omega) (by omega) (by rw [hie2];omega) (by omega)
 rw [Int.toNat_natCast,hie1] at hmk
 have hG0:RowG (w.alloc (.cells (madeCells (.agg #[.string ⟨#[]⟩,.int .i64 0,.int .i64 0,.bool false,.bool false,.string ⟨#[]⟩,.string ⟨#[]⟩,.int .i64 0,.int .i64 0,.slice none 0 0,.slice none 0 0]:Value).cells (n*11)) 55)) w.heap.size 11 n (rHf d ok w) ([]:List (St (d+1))):=RowG.made w _ 11 n _ _
 have hb0:Below w.heap.size w (w.alloc (.cells (madeCells (.agg #[.string ⟨#[]⟩,.int .i64 0,.int .i64 0,.bool false,.bool false,.string ⟨#[]⟩,.string ⟨#[]⟩,.int .i64 0,.int .i64 0,.slice none 0 0,.slice none 0 0]:Value).cells (n*11)) 55)):=(Below.refl _ _).alloc (Nat.le_refl _) _
 have hs0:(w.alloc (.cells (madeCells (.agg #[.string ⟨#[]⟩,.int .i64 0,.int .i64 0,.bool false,.bool false,.string ⟨#[]⟩,.string ⟨#[]⟩,.int .i64 0,.int .i64 0,.slice none 0 0,.slice none 0 0]:Value).cells (n*11)) 55)).heap.size=w.heap.size+1:=by simp
 generalize w.alloc (.cells (madeCells (.agg #[.string ⟨#[]⟩,.int .i64 0,.int .i64 0,.bool false,.bool false,.string ⟨#[]⟩,.string ⟨#[]⟩,.int .i64 0,.int .i64 0,.slice none 0 0,.slice none 0 0]:Value).cells (n*11)) 55)=w0 at *
 go_enter Tryz.func41,Tryz.ntmps41
 go_wp2
 go_loopw [13] (fun ix wr=>∃ (i:Nat),i≤n∧ix=.int .i64 (i:Int)∧RowG wr w.heap.size 11 n (rHf d ok w) ((l).take i)∧Below w.heap.size w wr∧w.heap.size < wr.heap.size) (fun ix _=>n - (RowKit.intOf ix).toNat)
 case atStart=>exact ⟨0,Nat.zero_le _,rfl,hG0,hb0,by omega⟩
 case round=>
  obtain ⟨i,hi,rfl,hRow,hb,hGs⟩:=hrel
  clear hG0 hb0 hs0 hmk
  by_cases hlt:i < n
  ·have hil:i < l.length:=by rw [HN.out];exact hlt
   obtain ⟨b,off,p1,p3,p4,p6,rfl,hbl,hOn,hIn,hc⟩:=stQ_at HC.out i hil
   have hko:=HK.out _ (List.getElem_mem hil)
   obtain ⟨t,ht⟩:∃ t,l[i]=t:=⟨_,rfl⟩
   rw [ht] at hOn hIn hc hko
   obtain ⟨m,hm⟩:∃ m,t.1.2.2.2.2.length=m:=⟨_,rfl⟩
   obtain ⟨ni,hni⟩:∃ m,t.2.length=m:=⟨_,rfl⟩
   rw [hm] at hOn hc
   rw [hni] at hIn hc
   obtain ⟨sn,hsn⟩:∃ s:ByteArray,⟨t.1.1.1.toArray⟩=s:=⟨_,rfl⟩
   obtain ⟨sd,hsd⟩:∃ s:ByteArray,⟨t.1.2.2.1.1.toArray⟩=s:=⟨_,rfl⟩
   obtain ⟨su,hsu⟩:∃ s:ByteArray,⟨t.1.2.2.1.2.toArray⟩=s:=⟨_,rfl⟩
   have hz1:sn.size≤140737488351232:=by rw [← hsn];show t.1.1.1.toArray.size≤_;simpa using hko.1
   have hz2:sd.size≤140737488351232:=by rw [← hsd];show t.1.2.2.1.1.toArray.size≤_;simpa using hko.2.1
   have hz3:su.size≤140737488351232:=by rw [← hsu];show t.1.2.2.1.2.toArray.size≤_;simpa using hko.2.2.1
   obtain ⟨sl,hsl⟩:∃ x,t.1.1.2.1=x:=⟨_,rfl⟩
   obtain ⟨sc,hsc⟩:∃ x,t.1.1.2.2=x:=⟨_,rfl⟩
   obtain ⟨sb,hsb⟩:∃ x,t.1.2.1.1=x:=⟨_,rfl⟩
   obtain ⟨se,hse⟩:∃ x,t.1.2.1.2=x:=⟨_,rfl⟩
   obtain ⟨sw,hsw⟩:∃ x,t.1.2.2.2.1.1=x:=⟨_,rfl⟩
   obtain ⟨sr,hsr⟩:∃ x,t.1.2.2.2.1.2=x:=⟨_,rfl⟩
   have hv:∀ so si,hdV t.1 so si=[.string sn,.int .i64 sl,.int .i64 sc,.bool sb,.bool se,.string sd,.string su,.int .i64 sw,.int .i64 sr,so,si]:=fun so si=>by
    unfold hdV sV
    rw [hsn,hsd,hsu,hsl,hsc,hsb,hse,hsw,hsr]
   have hv2:∀ so si,hdV (stH t.1) so si=[.string sn,.int .i64 0,.int .i64 0,.bool sb,.bool se,.string sd,.string su,.int .i64 sw,.int .i64 sr,so,si]:=fun so si=>by
    show [sV t.1.1.1,.int .i64 0,.int .i64 0,.bool t.1.2.1.1,.bool t.1.2.1.2,sV t.1.2.2.1.1,sV t.1.2.2.1.2,.int .i64 t.1.2.2.2.1.1,.int .i64 t.1.2.2.2.1.2,so,si]=_
    unfold sV
    rw [hsn,hsd,hsu,hsb,hse,hsw,hsr]
   rw [hv] at hc
   have HQ:Hid (l[i]=t):=ht
   have HV2:Hid (∀ so si,hdV (stH t.1) so si=[.string sn,.int .i64 0,.int .i64 0,.bool sb,.bool se,.string sd,.string su,.int .i64 sw,.int .i64 sr,so,si]):=hv2
   have HM:Hid (t.1.2.2.2.2.length=m):=hm
   have HKO:Hid (HdOk t.1):=hko
   have HON:Hid (RdK ok w 6 (rOn ok w) t.1.2.2.2.2 (.slice p1 m p3)):=hOn
   have HIN:Hid (RdK ok w 11 (rSt d ok w) t.2 (.slice p4 ni p6)):=hIn
   clear ht hm hni hko hOn hIn hsn hsd hsu hsl hsc hsb hse hsw hsr hv hv2
   obtain ⟨acc,hac⟩:∃ acc,(l).take i=acc:=⟨_,rfl⟩
   have hla:acc.length=i:=by rw [← hac];simp [HN.out];omega
   rw [hac] at hRow
   have HAC:Hid ((l).take i=acc):=hac
   clear hac
   have i1:(i:Int) < (n:Int):=by omega
   have i2:(0:Int)≤(i:Int):=by omega
   have C0:=(hb.cell (p:=⟨b,off+i*11+0,none⟩) hbl).trans (hc 0 _ rfl)
   have C1:=(hb.cell (p:=⟨b,off+i*11+1,none⟩) hbl).trans (hc 1 _ rfl)
   have C2:=(hb.cell (p:=⟨b,off+i*11+2,none⟩) hbl).trans (hc 2 _ rfl)
   have C3:=(hb.cell (p:=⟨b,off+i*11+3,none⟩) hbl).trans (hc 3 _ rfl)
   have C4:=(hb.cell (p:=⟨b,off+i*11+4,none⟩) hbl).trans (hc 4 _ rfl)
   have C5:=(hb.cell (p:=⟨b,off+i*11+5,none⟩) hbl).trans (hc 5 _ rfl)
   have C6:=(hb.cell (p:=⟨b,off+i*11+6,none⟩) hbl).trans (hc 6 _ rfl)
   have C7:=(hb.cell (p:=⟨b,off+i*11+7,none⟩) hbl).trans (hc 7 _ rfl)
   have C8:=(hb.cell (p:=⟨b,off+i*11+8,none⟩) hbl).trans (hc 8 _ rfl)
   have C9:=(hb.cell (p:=⟨b,off+i*11+9,none⟩) hbl).trans (hc 9 _ rfl)
   have C10:=(hb.cell (p:=⟨b,off+i*11+10,none⟩) hbl).trans (hc 10 _ rfl)
   rw [Nat.add_zero] at C0
   clear hc
   have hal:=(Below.refl wr.heap.size wr).alloc (Nat.le_refl _) (.cells #[.string sn,.int .i64 sl,.int .i64 sc,.bool sb,.bool se,.string sd,.string su,.int .i64 sw,.int .i64 sr,.slice p1 m p3,.slice p4 ni p6] 55)
   have hX:=Bn.new wr [.string sn,.int .i64 sl,.int .i64 sc,.bool sb,.bool se,.string sd,.string su,.int .i64 sw,.int .i64 sr,.slice p1 m p3,.slice p4 ni p6] 55 _ rfl
   have hRx:=hRow.on (kp_hf d ok w) hGs hal
   have hbx:=hb.trans (hal.mono hb.size)
   have hGx:=Nat.lt_of_lt_of_le hGs hal.size
   have hcall:∀ w1,Below w.heap.size w w1→Calls Tryz.prog 42 #[.agg #[.string sn,.int .i64 sl,.int .i64 sc,.bool sb,.bool se,.string sd,.string su,.int .i64 sw,.int .i64 sr,.slice p1 m p3,.slice p4 ni p6]] w1 fun e w'=>∃ u1 u3,e=.returned (.agg #[.string sn,.int .i64 0,.int .i64 0,.bool sb,.bool se,.string sd,.string su,.int .i64 sw,.int .i64 sr,.slice u1 m u3,.slice p4 ni p6])∧RdK (fun b=>w1.heap.size≤b) w' 6 (rOn (fun b=>w1.heap.size≤b) w') (t.1.2.2.2.2.map stO) (.slice u1 m u3)∧Below w1.heap.size w1 w':=fun w1 b1=>salone_any sn sl sc sb se sd su sw sr p1 m p3 p4 ni p6 t.1.2.2.2.2 hz1 hz2 hz3 (HON.out.stay kp_on (ok':=ok) (fun b hb hl=>⟨hb,b1.block b hl⟩)) HM.out (by have:=HKO.out.2.2.2.1;rw [HM.out] at this;exact this) HKO.out.2.2.2.2
   go_upto_region 5 with fail
   clear C0 C1 C2 C3 C4 C5 C6 C7 C8 C9 C10 hal
   generalize wr.alloc (.cells #[.string sn,.int .i64 sl,.int .i64 sc,.bool sb,.bool se,.string sd,.string su,.int .i64 sw,.int .i64 sr,.slice p1 m p3,.slice p4 ni p6] 55)=wx at *
   obtain ⟨X,hXX⟩:∃ X,wr.heap.size=X:=⟨_,rfl⟩
   rw [hXX] at hX ⊢
   have HXX:Hid (wr.heap.size=X):=hXX
   clear hXX
   obtain ⟨x0,_⟩:=hX 0 _ rfl
   obtain ⟨x1,_⟩:=hX 1 _ rfl
   obtain ⟨x2,_⟩:=hX 2 _ rfl
   obtain ⟨x3,_⟩:=hX 3 _ rfl
   obtain ⟨x4,_⟩:=hX 4 _ rfl
   obtain ⟨x5,_⟩:=hX 5 _ rfl
   obtain ⟨x6,_⟩:=hX 6 _ rfl
   obtain ⟨x7,_⟩:=hX 7 _ rfl
   obtain ⟨x8,_⟩:=hX 8 _ rfl
   obtain ⟨x9,_⟩:=hX 9 _ rfl
   obtain ⟨x10,_⟩:=hX 10 _ rfl
   go_wp2_with (first
    | (go_at_call 42;refine (hcall _ hbx).mono ?_;rintro e w1 ⟨u1,u3,rfl,hr,b1⟩;have hp:rHf d ok w (fun b=>w.heap.size < b) w1 t [.string sn,.int .i64 0,.int .i64 0,.bool sb,.bool se,.string sd,.string su,.int .i64 sw,.int .i64 sr,.slice u1 m u3,.slice p4 ni p6]:=(⟨.slice u1 m u3,.slice p4 ni p6,(HV2.out _ _).symm,hr.stay kp_on (fun b hb hl=>⟨Nat.lt_of_lt_of_le hGx hb,rfl⟩),HIN.out⟩);clear hr;have hR1:=hRx.on (kp_hf d ok w) hGx b1;obtain ⟨⟨r0,q0⟩,z0⟩:=hR1.1 (i*11+0) (mul_in hlt (by omega));obtain ⟨⟨r1,q1⟩,z1⟩:=hR1.1 (i*11+1) (mul_in hlt (by omega));obtain ⟨⟨r2,q2⟩,z2⟩:=hR1.1 (i*11+2) (mul_in hlt (by omega));obtain ⟨⟨r3,q3⟩,z3⟩:=hR1.1 (i*11+3) (mul_in hlt (by omega));obtain ⟨⟨r4,q4⟩,z4⟩:=hR1.1 (i*11+4) (mul_in hlt (by omega));obtain ⟨⟨r5,q5⟩,z5⟩:=hR1.1 (i*11+5) (mul_in hlt (by omega));obtain ⟨⟨r6,q6⟩,z6⟩:=hR1.1 (i*11+6) (mul_in hlt (by omega));obtain ⟨⟨r7,q7⟩,z7⟩:=hR1.1 (i*11+7) (mul_in hlt (by omega));obtain ⟨⟨r8,q8⟩,z8⟩:=hR1.1 (i*11+8) (mul_in hlt (by omega));obtain ⟨⟨r9,q9⟩,z9⟩:=hR1.1 (i*11+9) (mul_in hlt (by omega));obtain ⟨⟨r10,q10⟩,z10⟩:=hR1.1 (i*11+10) (mul_in hlt (by omega));rw [Nat.add_zero] at q0 z0)
    | fail)
   have hP:=hR1.put (kp_hf d ok w) (x:=t) (cs:=[.string sn,.int .i64 0,.int .i64 0,.bool sb,.bool se,.string sd,.string su,.int .i64 sw,.int .i64 sr,.slice u1 m u3,.slice p4 ni p6]) (by rw [hla];exact hlt) rfl hp
   rw [hla] at hP
   have hb2:=putL_below [.string sn,.int .i64 0,.int .i64 0,.bool sb,.bool se,.string sd,.string su,.int .i64 sw,.int .i64 sr,.slice u1 m u3,.slice p4 ni p6] w1 w.heap.size (i*11) (hbx.trans (b1.mono (Nat.le_of_lt hGx))) (Nat.le_refl _)
   have hs2:w.heap.size < (putL w1 w.heap.size (i*11) [.string sn,.int .i64 0,.int .i64 0,.bool sb,.bool se,.string sd,.string su,.int .i64 sw,.int .i64 sr,.slice u1 m u3,.slice p4 ni p6]).heap.size:=by rw [putL_size];exact Nat.lt_of_lt_of_le hGx b1.size
   have hac2:(l).take (i+1)=acc++[t]:=by
    rw [List.take_succ_eq_append_getElem (by simp [HN.out];omega),HAC.out]
    simp [HQ.out]
   clear x0 r0 q0 z0 x1 r1 q1 z1 x2 r2 q2 z2 x3 r3 q3 z3 x4 r4 q4 z4 x5 r5 q5 z5 x6 r6 q6 z6 x7 r7 q7 z7 x8 r8 q8 z8 x9 r9 q9 z9 x10 r10 q10 z10 hR1 hRx hp
   go_wp2
   go_roundw
   case rel=>exact ⟨i+1,hlt,by go_num,by rw [hac2];exact hP,hb2,hs2⟩
   case measure=>simp [RowKit.intOf];omega
  ·have i1:¬ (i:Int) < (n:Int):=by omega
   have hin:i=n:=by omega
   have hfull:(l).take i=l:=List.take_of_length_le (by simp [HN.out];omega)
   rw [hfull] at hRow
   go_wp2
   go_ret
   exact ⟨rfl,hRow,hb,hGs⟩
def kR (sd su:ByteArray) (sw sr:Int) (sb se:Bool):Bool:=if sd.toList=[]∧su.toList=[]∧sw=0∧(sr == 0)=true then !sb || !se else !sb && !se && plainB (bl sd) && plainB (bl su) && nbB sw && nbB sr
set_option maxRecDepth 100000 in
set_option maxHeartbeats 8000000 in
theorem rknd_any (sn:ByteArray) (sl sc:Int) (sb se:Bool) (sd su:ByteArray) (sw sr:Int) (p1:Option Addr) (m p3:Nat) (p4:Option Addr) (ni p6:Nat) (w:World) (hsd:sd.size≤140737488351232) (hsu:su.size≤140737488351232):Calls Tryz.prog 93 #[.agg #[.string sn,.int .i64 sl,.int .i64 sc,.bool sb,.bool se,.string sd,.string su,.int .i64 sw,.int .i64 sr,.slice p1 m p3,.slice p4 ni p6]] w fun e w'=>e=.returned (.bool (kR sd su sw sr sb se))∧Below w.heap.size w w':=by
 have hal:Below w.heap.size w (w.alloc (.cells #[.string sn,.int .i64 sl,.int .i64 sc,.bool sb,.bool se,.string sd,.string su,.int .i64 sw,.int .i64 sr,.slice p1 m p3,.slice p4 ni p6] 55)):=(Below.refl w.heap.size w).alloc (Nat.le_refl _) _
 have hX:Bn (w.alloc (.cells #[.string sn,.int .i64 sl,.int .i64 sc,.bool sb,.bool se,.string sd,.string su,.int .i64 sw,.int .i64 sr,.slice p1 m p3,.slice p4 ni p6] 55)) w.heap.size [.string sn,.int .i64 sl,.int .i64 sc,.bool sb,.bool se,.string sd,.string su,.int .i64 sw,.int .i64 sr,.slice p1 m p3,.slice p4 ni p6]:=Bn.new w [.string sn,.int .i64 sl,.int .i64 sc,.bool sb,.bool se,.string sd,.string su,.int .i64 sw,.int .i64 sr,.slice p1 m p3,.slice p4 ni p6] 55 _ rfl
 all_goals (
  go_enter Tryz.func93,Tryz.ntmps93
  go_upto_region 1 with fail
  generalize (w.alloc (.cells #[.string sn,.int .i64 sl,.int .i64 sc,.bool sb,.bool se,.string sd,.string su,.int .i64 sw,.int .i64 sr,.slice p1 m p3,.slice p4 ni p6] 55))=wx at *
  have hB:Below wx.heap.size wx wx:=Below.refl _ _
  obtain ⟨x0,_⟩:=hX 0 _ rfl
  obtain ⟨x1,_⟩:=hX 1 _ rfl
  obtain ⟨x2,_⟩:=hX 2 _ rfl
  obtain ⟨x3,_⟩:=hX 3 _ rfl
  obtain ⟨x4,_⟩:=hX 4 _ rfl
  obtain ⟨x5,_⟩:=hX 5 _ rfl
  obtain ⟨x6,_⟩:=hX 6 _ rfl
  obtain ⟨x7,_⟩:=hX 7 _ rfl
  obtain ⟨x8,_⟩:=hX 8 _ rfl
  obtain ⟨x9,_⟩:=hX 9 _ rfl
  obtain ⟨x10,_⟩:=hX 10 _ rfl
  go_wp2_with (first
   | (go_at_call 51;refine (rnameB _ _ (by assumption)).mono ?_;rintro e w1 ⟨rfl,b1⟩;have hB:=Below.nx hB b1;obtain ⟨x5,_⟩:=(hX.on hB) 5 _ rfl;obtain ⟨x6,_⟩:=(hX.on hB) 6 _ rfl;obtain ⟨x7,_⟩:=(hX.on hB) 7 _ rfl;obtain ⟨x8,_⟩:=(hX.on hB) 8 _ rfl)
   | (go_at_call 52;refine (rnum_any _ _).mono ?_;rintro e w1 ⟨rfl,b1⟩;have hB:=Below.nx hB b1;obtain ⟨x7,_⟩:=(hX.on hB) 7 _ rfl;obtain ⟨x8,_⟩:=(hX.on hB) 8 _ rfl)
   | fail)
  all_goals (
   go_ret
   exact ⟨by simp [kR, *],hal.trans (hB.mono hal.size)⟩))
def HdK (h:HdC):Prop:=h.1.1.length≤140737488351232∧h.2.2.1.1.length≤140737488351232∧h.2.2.1.2.length≤140737488351232∧∀ o∈h.2.2.2.2,OnK o
def StK:(d:Nat)→St d→Prop
 | 0,t=>Empty.elim t
 | d+1,t=>HdK t.1∧∀ x∈t.2,StK d x
theorem kR_eq (sd su:ByteArray) (h:HdC) (h1:bl sd=h.2.2.1.1) (h2:bl su=h.2.2.1.2):kR sd su h.2.2.2.1.1 h.2.2.2.1.2 h.2.1.1 h.2.1.2=kndF h:=by
 have e1:sd.toList=bl sd:=ByteArray.toList_eq _
 have e2:su.toList=bl su:=ByteArray.toList_eq _
 unfold kR kndF stepB
 rw [e1,e2,← h1,← h2]
 by_cases a:bl sd=[] <;> by_cases b:bl su=[] <;> by_cases c:h.2.2.2.1.1=0 <;> by_cases e:h.2.2.2.1.2=0 <;> simp [a,b,c,e]
theorem hd_out (h:HdC) (h1:h.1.1.length≤140737488351232) (h2:h.2.2.1.1.length≤140737488351232) (h3:h.2.2.1.2.length≤140737488351232):∃ (sn:ByteArray) (sl sc:Int) (sb se:Bool) (sd su:ByteArray) (sw sr:Int),hdV h=(fun so si=>[.string sn,.int .i64 sl,.int .i64 sc,.bool sb,.bool se,.string sd,.string su,.int .i64 sw,.int .i64 sr,so,si])∧plainB h.1.1=plainB (bl sn)∧kndF h=kR sd su sw sr sb se∧sn.size≤140737488351232∧sd.size≤140737488351232∧su.size≤140737488351232:=by
 obtain ⟨sn,a1,a2,a3⟩:=sV_out h.1.1 h1
 obtain ⟨sd,b1,b2,b3⟩:=sV_out h.2.2.1.1 h2
 obtain ⟨su,c1,c2,c3⟩:=sV_out h.2.2.1.2 h3
 refine ⟨sn,h.1.2.1,h.1.2.2,h.2.1.1,h.2.1.2,sd,su,h.2.2.2.1.1,h.2.2.2.1.2,?_,by rw [a2],(kR_eq sd su h b2 c2).symm,a3,b3,c3⟩
 funext so si
 unfold hdV
 rw [a1,b1,c1]
set_option maxRecDepth 100000 in
set_option maxHeartbeats 8000000 in
theorem rst1_any (sn:ByteArray) (sl sc:Int) (sb se:Bool) (sd su:ByteArray) (sw sr:Int) (p1:Option Addr) (m p3:Nat) (p4:Option Addr) (ni p6:Nat) (kb:Nat) (n:Int) (bk bo bi:Bool) (w:World) (h0:0≤n) (hkl:kb < w.heap.size) (hkc:w.cell? ⟨kb,0,none⟩=some (.int .i64 n)) (hsn:sn.size≤140737488351232) (hk:∀ w1,Below w.heap.size w w1→Calls Tryz.prog 93 #[.agg #[.string sn,.int .i64 sl,.int .i64 sc,.bool sb,.bool se,.string sd,.string su,.int .i64 sw,.int .i64 sr,.slice p1 m p3,.slice p4 ni p6]] w1 fun e w'=>e=.returned (.bool bk)∧Below w1.heap.size w1 w') (ho:∀ w1,Below w.heap.size w w1→Calls Tryz.prog 94 #[.slice p1 m p3,.func (.func 95) #[] #[]] w1 fun e w'=>e=.returned (.bool bo)∧Below w1.heap.size w1 w') (hi:∀ w1,Below w.heap.size w w1→Calls Tryz.prog 55 #[.slice p4 ni p6,.int .i64 (n+1)] w1 fun e w'=>e=.returned (.bool bi)∧Below w1.heap.size w1 w'):Calls Tryz.prog 92 #[.agg #[.string sn,.int .i64 sl,.int .i64 sc,.bool sb,.bool se,.string sd,.string su,.int .i64 sw,.int .i64 sr,.slice p1 m p3,.slice p4 ni p6],.pointer (some ⟨kb,0,none⟩)] w fun e w'=>e=.returned (.bool (decide (n≤6) && plainB (bl sn) && bk && bo && bi))∧Below w.heap.size w w':=by
 have hal:Below w.heap.size w (w.alloc (.cells #[.string sn,.int .i64 sl,.int .i64 sc,.bool sb,.bool se,.string sd,.string su,.int .i64 sw,.int .i64 sr,.slice p1 m p3,.slice p4 ni p6] 55)):=(Below.refl w.heap.size w).alloc (Nat.le_refl _) _
 have hX:Bn (w.alloc (.cells #[.string sn,.int .i64 sl,.int .i64 sc,.bool sb,.bool se,.string sd,.string su,.int .i64 sw,.int .i64 sr,.slice p1 m p3,.slice p4 ni p6] 55)) w.heap.size [.string sn,.int .i64 sl,.int .i64 sc,.bool sb,.bool se,.string sd,.string su,.int .i64 sw,.int .i64 sr,.slice p1 m p3,.slice p4 ni p6]:=Bn.new w [.string sn,.int .i64 sl,.int .i64 sc,.bool sb,.bool se,.string sd,.string su,.int .i64 sw,.int .i64 sr,.slice p1 m p3,.slice p4 ni p6] 55 _ rfl
 by_cases hn6:n≤6
 all_goals (
  go_enter Tryz.func92,Tryz.ntmps92
  go_upto_region 1 with fail
  generalize (w.alloc (.cells #[.string sn,.int .i64 sl,.int .i64 sc,.bool sb,.bool se,.string sd,.string su,.int .i64 sw,.int .i64 sr,.slice p1 m p3,.slice p4 ni p6] 55))=wx at *
  have hB:Below wx.heap.size wx wx:=Below.refl _ _
  obtain ⟨x0,_⟩:=hX 0 _ rfl
  obtain ⟨x1,_⟩:=hX 1 _ rfl
  obtain ⟨x2,_⟩:=hX 2 _ rfl
  obtain ⟨x3,_⟩:=hX 3 _ rfl
  obtain ⟨x4,_⟩:=hX 4 _ rfl
  obtain ⟨x5,_⟩:=hX 5 _ rfl
  obtain ⟨x6,_⟩:=hX 6 _ rfl
  obtain ⟨x7,_⟩:=hX 7 _ rfl
  obtain ⟨x8,_⟩:=hX 8 _ rfl
  obtain ⟨x9,_⟩:=hX 9 _ rfl
  obtain ⟨x10,_⟩:=hX 10 _ rfl
  have kc:=(hal.cell (p:=⟨kb,0,none⟩) hkl).trans hkc
  go_wp2_with (first
   | (go_at_call 51;refine (rnameB _ _ (by assumption)).mono ?_;rintro e w1 ⟨rfl,b1⟩;have hB:=Below.nx hB b1;have kc:=((hal.trans (hB.mono hal.size)).cell (p:=⟨kb,0,none⟩) hkl).trans hkc;obtain ⟨x0,_⟩:=(hX.on hB) 0 _ rfl;obtain ⟨x1,_⟩:=(hX.on hB) 1 _ rfl;obtain ⟨x2,_⟩:=(hX.on hB) 2 _ rfl;obtain ⟨x3,_⟩:=(hX.on hB) 3 _ rfl;obtain ⟨x4,_⟩:=(hX.on hB) 4 _ rfl;obtain ⟨x5,_⟩:=(hX.on hB) 5 _ rfl;obtain ⟨x6,_⟩:=(hX.on hB) 6 _ rfl;obtain ⟨x7,_⟩:=(hX.on hB) 7 _ rfl;obtain ⟨x8,_⟩:=(hX.on hB) 8 _ rfl;obtain ⟨x9,_⟩:=(hX.on hB) 9 _ rfl;obtain ⟨x10,_⟩:=(hX.on hB) 10 _ rfl)
   | (go_at_call 93;refine (hk _ (hal.trans (hB.mono hal.size))).mono ?_;rintro e w1 ⟨rfl,b1⟩;have hB:=Below.nx hB b1;have kc:=((hal.trans (hB.mono hal.size)).cell (p:=⟨kb,0,none⟩) hkl).trans hkc;obtain ⟨x9,_⟩:=(hX.on hB) 9 _ rfl;obtain ⟨x10,_⟩:=(hX.on hB) 10 _ rfl)
   | (go_at_call 94;refine (ho _ (hal.trans (hB.mono hal.size))).mono ?_;rintro e w1 ⟨rfl,b1⟩;have hB:=Below.nx hB b1;have kc:=((hal.trans (hB.mono hal.size)).cell (p:=⟨kb,0,none⟩) hkl).trans hkc;obtain ⟨x10,_⟩:=(hX.on hB) 10 _ rfl)
   | (go_at_call 55;refine (hi _ (hal.trans (hB.mono hal.size))).mono ?_;rintro e w1 ⟨rfl,b1⟩;have hB:=Below.nx hB b1;have kc:=((hal.trans (hB.mono hal.size)).cell (p:=⟨kb,0,none⟩) hkl).trans hkc;skip)
   | fail)
  all_goals (
   go_ret
   exact ⟨by first | (simp [*];done) | (simp [*];intro hz;omega),hal.trans (hB.mono hal.size)⟩))
set_option maxRecDepth 100000 in
set_option maxHeartbeats 8000000 in
theorem everySt_any {d kb n0:Nat} {ok:Nat→Prop} {w:World} {l:List (St (d+1))} {v:Value} (h:RdK ok w 11 (rSt (d+1) ok w) l v) (hok:∀ s∈l,HdK s.1) (hin:∀ t∈l,∀ (w1:World) (v1:Value),RdK ok w1 11 (rSt d ok w1) t.2 v1→Pow w1→Calls Tryz.prog 55 #[v1,.int .i64 ((n0:Int)+1)] w1 fun e w'=>e=.returned (.bool (t.2.all (stF d (n0+1))))∧Below w1.heap.size w1 w') (hp:Pow w) (hkl:kb < w.heap.size) (hkc:w.cell? ⟨kb,0,none⟩=some (.int .i64 (n0:Int))) :
  Calls Tryz.prog 91 #[v,.func (.func 92) #[] #[.pointer (some ⟨kb,0,none⟩)]] w fun e w'=>e=.returned (.bool (l.all (stF (d+1) n0)))∧Below w.heap.size w w':=by
 obtain ⟨a,cap,rfl,hlc,hcm⟩:=h.form
 unfold maxLen at hcm
 have HC:=mkHid h
 have HK:=mkHid hok
 have HI:=mkHid hin
 obtain ⟨n,hn⟩:∃ n,l.length=n:=⟨_,rfl⟩
 rw [hn] at hlc ⊢
 have HN:Hid (l.length=n):=hn
 obtain ⟨f,hf⟩:∃ f:(St (d+1))→Bool,(stF (d+1) n0)=f:=⟨_,rfl⟩
 rw [hf]
 have HF:=mkHid hf
 obtain ⟨V,HA⟩:∃ V,l.all f=V:=⟨_,rfl⟩
 rw [HA]
 have HAA:=mkHid HA
 clear h hok hin hn hf HA
 go_enter Tryz.func91,Tryz.ntmps91
 go_wp2
 go_loopw [9] (fun ix wr=>∃ (i:Nat),i≤n∧ix=.int .i64 (i:Int)∧Hid (∀ x∈l.take i,f x=true)∧Below w.heap.size w wr) (fun ix _=>n - (RowKit.intOf ix).toNat)
 case atStart=>exact ⟨0,Nat.zero_le _,rfl,(show Hid _ from fun x hx=>by simp at hx),Below.refl _ _⟩
 case round=>
  obtain ⟨i,hi,rfl,hT,hb⟩:=hrel
  by_cases hlt:i < n
  ·have hil:i < l.length:=by rw [HN.out];exact hlt
   have HA:=HAA.out
   obtain ⟨b,off,p1,p3,p4,p6,rfl,hbl,hOn,hIn,hc⟩:=stQ_at HC.out i hil
   have hmem:=List.getElem_mem hil
   have hko:=HK.out _ hmem
   have hiq:=HI.out _ hmem
   obtain ⟨q,ht⟩:∃ t,l[i]=t:=⟨_,rfl⟩
   have HQ:=mkHid ht
   rw [ht] at hOn hIn hc hko hiq
   obtain ⟨sn,sl,sc,sb,se,sd,su,sw,sr,hsv,hpn,hkd,hsn,hsd,hsu⟩:=hd_out q.1 hko.1 hko.2.1 hko.2.2.1
   have hfx:f q=(decide ((n0:Int)≤6) && plainB (bl sn) && kR sd su sw sr sb se && q.1.2.2.2.2.all onF && q.2.all (stF d (n0+1))):=by
    rw [← HF.out,← hpn,← hkd]
    have e:decide ((n0:Int)≤6)=decide (n0≤6):=by by_cases hh:n0≤6 <;> simp [hh] <;> omega
    rw [e];rfl
   obtain ⟨m,hm⟩:∃ m,q.1.2.2.2.2.length=m:=⟨_,rfl⟩
   obtain ⟨ni,hni⟩:∃ m,q.2.length=m:=⟨_,rfl⟩
   rw [hm] at hOn hc
   rw [hni] at hIn hc
   rw [hsv] at hc
   have HON:=mkHid hOn
   have HIQ:=mkHid hiq
   have HIN:=mkHid hIn
   have HKO:=mkHid hko
   clear hmem ht hm hni hsv hOn hIn hko hiq hpn hkd
   have i1:(i:Int) < (n:Int):=by omega
   have i2:(0:Int)≤(i:Int):=by omega
   have C0:=(hb.cell (p:=⟨b,off+i*11+0,none⟩) hbl).trans (hc 0 _ rfl)
   have C1:=(hb.cell (p:=⟨b,off+i*11+1,none⟩) hbl).trans (hc 1 _ rfl)
   have C2:=(hb.cell (p:=⟨b,off+i*11+2,none⟩) hbl).trans (hc 2 _ rfl)
   have C3:=(hb.cell (p:=⟨b,off+i*11+3,none⟩) hbl).trans (hc 3 _ rfl)
   have C4:=(hb.cell (p:=⟨b,off+i*11+4,none⟩) hbl).trans (hc 4 _ rfl)
   have C5:=(hb.cell (p:=⟨b,off+i*11+5,none⟩) hbl).trans (hc 5 _ rfl)
   have C6:=(hb.cell (p:=⟨b,off+i*11+6,none⟩) hbl).trans (hc 6 _ rfl)
   have C7:=(hb.cell (p:=⟨b,off+i*11+7,none⟩) hbl).trans (hc 7 _ rfl)
   have C8:=(hb.cell (p:=⟨b,off+i*11+8,none⟩) hbl).trans (hc 8 _ rfl)
   have C9:=(hb.cell (p:=⟨b,off+i*11+9,none⟩) hbl).trans (hc 9 _ rfl)
   have C10:=(hb.cell (p:=⟨b,off+i*11+10,none⟩) hbl).trans (hc 10 _ rfl)
   rw [Nat.add_zero] at C0
   clear hc
   have hal:Below wr.heap.size wr (wr.alloc (.cells #[.string sn,.int .i64 sl,.int .i64 sc,.bool sb,.bool se,.string sd,.string su,.int .i64 sw,.int .i64 sr,.slice p1 m p3,.slice p4 ni p6] 55)):=(Below.refl _ _).alloc (Nat.le_refl _) _
   have hX:Bn (wr.alloc (.cells #[.string sn,.int .i64 sl,.int .i64 sc,.bool sb,.bool se,.string sd,.string su,.int .i64 sw,.int .i64 sr,.slice p1 m p3,.slice p4 ni p6] 55)) wr.heap.size [.string sn,.int .i64 sl,.int .i64 sc,.bool sb,.bool se,.string sd,.string su,.int .i64 sw,.int .i64 sr,.slice p1 m p3,.slice p4 ni p6]:=Bn.new wr [.string sn,.int .i64 sl,.int .i64 sc,.bool sb,.bool se,.string sd,.string su,.int .i64 sw,.int .i64 sr,.slice p1 m p3,.slice p4 ni p6] 55 _ rfl
   have hbx:=hb.trans (hal.mono hb.size)
   have hcall:∀ w1,Below w.heap.size w w1→Calls Tryz.prog 92 #[.agg #[.string sn,.int .i64 sl,.int .i64 sc,.bool sb,.bool se,.string sd,.string su,.int .i64 sw,.int .i64 sr,.slice p1 m p3,.slice p4 ni p6],.pointer (some ⟨kb,0,none⟩)] w1 fun e w'=>e=.returned (.bool (f q))∧Below w1.heap.size w1 w':=fun w1 b1=>by
    rw [hfx]
    exact rst1_any sn sl sc sb se sd su sw sr p1 m p3 p4 ni p6 kb n0 _ _ _ w1 (by omega) (Nat.lt_of_lt_of_le hkl b1.size) ((b1.cell (p:=⟨kb,0,none⟩) hkl).trans hkc) hsn (fun w2 b2=>rknd_any sn sl sc sb se sd su sw sr p1 m p3 p4 ni p6 w2 hsd hsu) (fun w2 b2=>everyOn_any (HON.out.stay kp_on (ok':=ok) (fun b hb hl=>⟨hb,((b2.block b (Nat.lt_of_lt_of_le hl b1.size)).trans (b1.block b hl))⟩)) HKO.out.2.2.2 ((hp.below b1).below b2)) (fun w2 b2=>HIQ.out w2 _ (HIN.out.stay (kp_st d) (ok':=ok) (fun b hb hl=>⟨hb,((b2.block b (Nat.lt_of_lt_of_le hl b1.size)).trans (b1.block b hl))⟩)) ((hp.below b1).below b2))
   clear hfx hsn hsd hsu
   have hac2:Hid (f q=true→(∀ x∈l.take (i+1),f x=true)):=fun hq=>by
    rw [List.take_succ_eq_append_getElem hil,HQ.out]
    intro x hx
    rcases List.mem_append.1 hx with hx | hx
    ·exact hT.out x hx
    ·rw [List.mem_singleton.1 hx];exact hq
   have hall:Hid (f q=false→l.all f=false):=fun hq=>by
    show l.all f=false
    rw [List.all_eq_false]
    exact ⟨q,by rw [← HQ.out];exact List.getElem_mem hil,by rw [hq];decide⟩
   cases hfq:f q with
   | true=>
    rw [hfq] at hcall
    have hT2:Hid (∀ x∈l.take (i+1),f x=true):=hac2.out hfq
    clear hac2 hall hfq
    go_upto_region 4 with fail
    clear C0 C1 C2 C3 C4 C5 C6 C7 C8 C9 C10
    generalize (wr.alloc (.cells #[.string sn,.int .i64 sl,.int .i64 sc,.bool sb,.bool se,.string sd,.string su,.int .i64 sw,.int .i64 sr,.slice p1 m p3,.slice p4 ni p6] 55))=wx at *
    obtain ⟨x0,_⟩:=hX 0 _ rfl
    obtain ⟨x1,_⟩:=hX 1 _ rfl
    obtain ⟨x2,_⟩:=hX 2 _ rfl
    obtain ⟨x3,_⟩:=hX 3 _ rfl
    obtain ⟨x4,_⟩:=hX 4 _ rfl
    obtain ⟨x5,_⟩:=hX 5 _ rfl
    obtain ⟨x6,_⟩:=hX 6 _ rfl
    obtain ⟨x7,_⟩:=hX 7 _ rfl
    obtain ⟨x8,_⟩:=hX 8 _ rfl
    obtain ⟨x9,_⟩:=hX 9 _ rfl
    obtain ⟨x10,_⟩:=hX 10 _ rfl
    go_wp2_with (first
     | (go_at_call 92;refine (hcall _ hbx).mono ?_;rintro e w1 ⟨rfl,b1⟩)
     | fail)
    have hb2:=hbx.trans (b1.mono hbx.size)
    go_wp2
    go_roundw
    case rel=>exact ⟨i+1,hlt,by go_num,hT2,hb2⟩
    case measure=>simp [RowKit.intOf];omega
   | false=>
    rw [hfq] at hcall
    have hA:=hall.out hfq
    rw [hA] at HA
    subst HA
    clear hac2 hall hfq hA
    go_upto_region 4 with fail
    clear C0 C1 C2 C3 C4 C5 C6 C7 C8 C9 C10
    generalize (wr.alloc (.cells #[.string sn,.int .i64 sl,.int .i64 sc,.bool sb,.bool se,.string sd,.string su,.int .i64 sw,.int .i64 sr,.slice p1 m p3,.slice p4 ni p6] 55))=wx at *
    obtain ⟨x0,_⟩:=hX 0 _ rfl
    obtain ⟨x1,_⟩:=hX 1 _ rfl
    obtain ⟨x2,_⟩:=hX 2 _ rfl
    obtain ⟨x3,_⟩:=hX 3 _ rfl
    obtain ⟨x4,_⟩:=hX 4 _ rfl
    obtain ⟨x5,_⟩:=hX 5 _ rfl
    obtain ⟨x6,_⟩:=hX 6 _ rfl
    obtain ⟨x7,_⟩:=hX 7 _ rfl
    obtain ⟨x8,_⟩:=hX 8 _ rfl
    obtain ⟨x9,_⟩:=hX 9 _ rfl
    obtain ⟨x10,_⟩:=hX 10 _ rfl
    go_wp2_with (first
     | (go_at_call 92;refine (hcall _ hbx).mono ?_;rintro e w1 ⟨rfl,b1⟩)
     | fail)
    go_ret
    exact ⟨rfl,hbx.trans (b1.mono hbx.size)⟩
  ·have i1:¬ (i:Int) < (n:Int):=by omega
   have hV:V=true:=by
    rw [← HAA.out,List.all_eq_true]
    have hf:=hT.out
    rw [List.take_of_length_le (by rw [HN.out];omega)] at hf
    exact hf
   subst hV
   go_wp2
   go_ret
   exact ⟨rfl,hb⟩
def RsK (d:Nat):Prop:=∀ (ok:Nat→Prop) (w:World) (l:List (St d)) (v:Value) (n0:Nat),RdK ok w 11 (rSt d ok w) l v→(∀ t∈l,StK d t)→Pow w→Calls Tryz.prog 55 #[v,.int .i64 (n0:Int)] w fun e w'=>e=.returned (.bool (l.all (stF d n0)))∧Below w.heap.size w w'
theorem rsts_walk {w:World} {v:Value} {n:Int} {b:Bool} (hv:∃ a m cap,v=.slice a m cap) (hk:∀ T,Calls Tryz.prog 91 #[v,.func (.func 92) #[] #[.pointer (some ⟨w.heap.size,0,none⟩)]] (w.alloc (.cells #[.int .i64 n] T)) fun e w'=>e=.returned (.bool b)∧Below (w.alloc (.cells #[.int .i64 n] T)).heap.size (w.alloc (.cells #[.int .i64 n] T)) w'):Calls Tryz.prog 55 #[v,.int .i64 n] w fun e w'=>e=.returned (.bool b)∧Below w.heap.size w w':=by
 have hal:∀ T,Below w.heap.size w (w.alloc (.cells #[.int .i64 n] T)):=fun T=>(Below.refl w.heap.size w).alloc (Nat.le_refl _) _
 obtain ⟨p4,ni,p6,rfl⟩:=hv
 go_enter Tryz.func55,Tryz.ntmps55
 go_upto_region 1 with fail
 go_wp2_with (first
  | (go_at_call 91;refine (hk _).mono ?_;rintro e w1 ⟨rfl,b1⟩)
  | fail)
 go_ret
 exact ⟨rfl,(hal _).trans (b1.mono (hal _).size)⟩
theorem rsts_in {d:Nat} (ok:Nat→Prop) (w:World) (l:List (St (d+1))) (v:Value) (n0:Nat) (h:RdK ok w 11 (rSt (d+1) ok w) l v) (hk:∀ t∈l,HdK t.1) (hin:∀ t∈l,∀ (w1:World) (v1:Value),RdK ok w1 11 (rSt d ok w1) t.2 v1→Pow w1→Calls Tryz.prog 55 #[v1,.int .i64 ((n0:Int)+1)] w1 fun e w'=>e=.returned (.bool (t.2.all (stF d (n0+1))))∧Below w1.heap.size w1 w') (hp:Pow w):Calls Tryz.prog 55 #[v,.int .i64 (n0:Int)] w fun e w'=>e=.returned (.bool (l.all (stF (d+1) n0)))∧Below w.heap.size w w':=by
 refine rsts_walk (h.form.elim fun a x=>x.elim fun cap y=>⟨a,_,cap,y.1⟩) fun T=>?_
 have hal:Below w.heap.size w (w.alloc (.cells #[.int .i64 (n0:Int)] T)):=(Below.refl w.heap.size w).alloc (Nat.le_refl _) _
 have hX:Bn (w.alloc (.cells #[.int .i64 (n0:Int)] T)) w.heap.size [.int .i64 (n0:Int)]:=Bn.new w [.int .i64 (n0:Int)] T _ rfl
 exact everySt_any (h.stay (kp_st (d+1)) (ok':=ok) (fun b hb hl=>⟨hb,hal.block b hl⟩)) hk hin (hp.below hal) (by simp) (hX 0 _ rfl).1
theorem rsts_zero:RsK 0:=by
 intro ok w l v n0 h hk hp
 have hl:l=[]:=by
  cases l with
  | nil=>rfl
  | cons t r=>exact Empty.elim t
 subst hl
 exact rsts_in (d:=0) ok w [] v n0 (by
  obtain ⟨a,cap,e,h1,h2,h3⟩:=h
  refine ⟨a,cap,e,h1,h2,?_⟩
  exact fun i hi=>absurd hi (Nat.not_lt_zero i)) (fun t ht=>by simp at ht) (fun t ht=>by simp at ht) hp
theorem rsts_step {d:Nat} (IH:RsK d):RsK (d+1):=by
 intro ok w l v n0 h hk hp
 refine rsts_in ok w l v n0 h (fun t ht=>(hk t ht).1) (fun t ht w1 v1 hr hp1=>?_) hp
 have:=IH ok w1 t.2 v1 (n0+1) hr (hk t ht).2 hp1
 rw [Int.natCast_add] at this
 exact this
theorem rsts_any:∀ d,RsK d
 | 0=>rsts_zero
 | d+1=>rsts_step (rsts_any d)
set_option maxRecDepth 100000 in
set_option maxHeartbeats 8000000 in
theorem formed_walk (s0:ByteArray) (n pl pc:Int) (p1:Option Addr) (m p3:Nat) (p4:Option Addr) (ni p6:Nat) (bv bs:Bool) (w:World) (hs0:s0.size≤140737488351232) (hv:∀ w1,Below w.heap.size w w1→Calls Tryz.prog 53 #[.slice p1 m p3,.func (.func 54) #[] #[]] w1 fun e w'=>e=.returned (.bool bv)∧Below w1.heap.size w1 w') (hs:∀ w1,Below w.heap.size w w1→Calls Tryz.prog 55 #[.slice p4 ni p6,.int .i64 1] w1 fun e w'=>e=.returned (.bool bs)∧Below w1.heap.size w1 w'):Calls Tryz.prog 21 #[.agg #[.string s0,.int .i64 n,.int .i64 pl,.int .i64 pc,.slice p1 m p3,.slice p4 ni p6]] w fun e w'=>e=.returned (.bool (plainB (bl s0) && nbB n && bv && bs))∧Below w.heap.size w w':=by
 have hal:Below w.heap.size w (w.alloc (.cells #[.string s0,.int .i64 n,.int .i64 pl,.int .i64 pc,.slice p1 m p3,.slice p4 ni p6] 33)):=(Below.refl w.heap.size w).alloc (Nat.le_refl _) _
 have hX:Bn (w.alloc (.cells #[.string s0,.int .i64 n,.int .i64 pl,.int .i64 pc,.slice p1 m p3,.slice p4 ni p6] 33)) w.heap.size [.string s0,.int .i64 n,.int .i64 pl,.int .i64 pc,.slice p1 m p3,.slice p4 ni p6]:=Bn.new w [.string s0,.int .i64 n,.int .i64 pl,.int .i64 pc,.slice p1 m p3,.slice p4 ni p6] 33 _ rfl
 all_goals (
  go_enter Tryz.func21,Tryz.ntmps21
  go_upto_region 1 with fail
  generalize (w.alloc (.cells #[.string s0,.int .i64 n,.int .i64 pl,.int .i64 pc,.slice p1 m p3,.slice p4 ni p6] 33))=wx at *
  have hB:Below wx.heap.size wx wx:=Below.refl _ _
  obtain ⟨x0,_⟩:=hX 0 _ rfl
  obtain ⟨x1,_⟩:=hX 1 _ rfl
  obtain ⟨x2,_⟩:=hX 2 _ rfl
  obtain ⟨x3,_⟩:=hX 3 _ rfl
  obtain ⟨x4,_⟩:=hX 4 _ rfl
  obtain ⟨x5,_⟩:=hX 5 _ rfl
  go_wp2_with (first
   | (go_at_call 51;refine (rnameB _ _ (by assumption)).mono ?_;rintro e w1 ⟨rfl,b1⟩;have hB:=Below.nx hB b1;obtain ⟨x1,_⟩:=(hX.on hB) 1 _ rfl;obtain ⟨x4,_⟩:=(hX.on hB) 4 _ rfl;obtain ⟨x5,_⟩:=(hX.on hB) 5 _ rfl)
   | (go_at_call 52;refine (rnum_any _ _).mono ?_;rintro e w1 ⟨rfl,b1⟩;have hB:=Below.nx hB b1;obtain ⟨x4,_⟩:=(hX.on hB) 4 _ rfl;obtain ⟨x5,_⟩:=(hX.on hB) 5 _ rfl)
   | (go_at_call 53;refine (hv _ (hal.trans (hB.mono hal.size))).mono ?_;rintro e w1 ⟨rfl,b1⟩;have hB:=Below.nx hB b1;obtain ⟨x5,_⟩:=(hX.on hB) 5 _ rfl)
   | (go_at_call 55;refine (hs _ (hal.trans (hB.mono hal.size))).mono ?_;rintro e w1 ⟨rfl,b1⟩;have hB:=Below.nx hB b1;skip)
   | fail)
  all_goals (
   go_ret
   exact ⟨by simp [*],hal.trans (hB.mono hal.size)⟩))
def ChK (d:Nat) (c:ChG d):Prop:=c.1.1.length≤140737488351232∧(∀ x∈c.2.2.1,x.1.length≤140737488351232)∧∀ t∈c.2.2.2,StK d t
theorem formedC_any {ok:Nat→Prop} {w:World} {d:Nat} {c:ChG d} {v:Value} (h:RdC ok w d c v) (hk:ChK d c) (hp:Pow w):Calls Tryz.prog 21 #[v] w fun e w'=>e=.returned (.bool (chF d c))∧Below w.heap.size w w':=by
 obtain ⟨sv,ss,rfl,hv,hs⟩:=h
 obtain ⟨s0,a1,a2,a3⟩:=sV_out c.1.1 hk.1
 have e:chF d c=(plainB (bl s0) && nbB c.2.1 && c.2.2.1.all varF && c.2.2.2.all (stF d 1)):=by rw [a2];rfl
 rw [a1,e]
 have kv:∀ w1,Below w.heap.size w w1→Calls Tryz.prog 53 #[sv,.func (.func 54) #[] #[]] w1 fun e w'=>e=.returned (.bool (c.2.2.1.all varF))∧Below w1.heap.size w1 w':=fun w1 b1=>everyVar_any (hv.stay kp_var (ok':=ok) (fun b hb hl=>⟨hb,b1.block b hl⟩)) hk.2.1
 have ks:∀ w1,Below w.heap.size w w1→Calls Tryz.prog 55 #[ss,.int .i64 1] w1 fun e w'=>e=.returned (.bool (c.2.2.2.all (stF d 1)))∧Below w1.heap.size w1 w':=fun w1 b1=>rsts_any d ok w1 c.2.2.2 ss 1 (hs.stay (kp_st d) (ok':=ok) (fun b hb hl=>⟨hb,b1.block b hl⟩)) hk.2.2 (hp.below b1)
 obtain ⟨p1,p3,rfl,_⟩:=hv.form
 obtain ⟨p4,p6,rfl,_⟩:=hs.form
 exact formed_walk s0 _ _ _ p1 _ p3 p4 _ p6 _ _ w a3 kv ks
theorem Tryz.sizeSB:(Tryz.prog.info? 78).map (·.size)=some 2:=by kernel_rfl
theorem Tryz.liesSB:liesAt Tryz.prog Tryz.prog.depth 80 (2 / Tryz.prog.cellsOf 80) 0 78 1=true:=by kernel_rfl
theorem Tryz.undPB:Tryz.prog.underlying 75=some (.pointer 78):=by kernel_rfl
set_option maxHeartbeats 1000000 in
set_option maxRecDepth 100000 in
theorem wCheck_used (b:Nat) (w:World) (h0:w.cell? ⟨b,0,none⟩=some (.pointer (some ⟨b,0,none⟩))) :
  Calls Tryz.prog 235 #[.pointer (some ⟨b,0,none⟩)] w fun e w'=>e=.returned (.tuple #[])∧w'=w:=by
 obtain ⟨j,hj,_⟩:=Option.map_eq_some_iff.1 Tryz.sizeSB
 go_enter Tryz.func235,Tryz.ntmps235
 go_wp2
 rw [Lib.run_neq_ptr_same w _ Tryz.undPB hj]
 go_wp2
 go_end0
 exact ⟨rfl,rfl⟩
theorem Tryz.undUP:Tryz.prog.underlying 305=some .unsafePointer:=by kernel_rfl
theorem Tryz.noEsc (x:Value) (w:World):(callFunc 261 #[x]).run Tryz.prog w=.ok (.value x) w:=by
 rw [run_callFunc_extern Tryz.func261 (by kernel_rfl) (by kernel_rfl) (by kernel_rfl) (e:=Extern.AbiNoEscape.same) (by kernel_rfl)]
 rw [Lib.run_noEscape]
 rfl
set_option maxHeartbeats 1000000 in
set_option maxRecDepth 100000 in
theorem wCheck_new (b:Nat) (w:World) (h0:w.cell? ⟨b,0,none⟩=some (.pointer none)) (hsh:w.shape? b=some (80,2)) (hfz:w.frozen? ⟨b,0,none⟩=false) :
  Calls Tryz.prog 235 #[.pointer (some ⟨b,0,none⟩)] w fun e w'=>e=.returned (.tuple #[])∧w'=w.setCell ⟨b,0,none⟩ (.pointer (some ⟨b,0,none⟩)):=by
 obtain ⟨j,hj,hjs⟩:=Option.map_eq_some_iff.1 Tryz.sizeSB
 have hv:=Lib.run_to_unsafe (P:=Tryz.prog) w ⟨b,0,none⟩ Tryz.undPB Tryz.undUP hj (by rw [hjs];decide) hsh (Nat.zero_lt_succ 1)
 have hb:=Lib.run_from_unsafe (P:=Tryz.prog) w ⟨b,0,none⟩ Tryz.undUP Tryz.undPB hj hsh Tryz.liesSB
 have hn:=Tryz.noEsc (.pointer (some ⟨b,0,none⟩)) w
 go_enter Tryz.func235,Tryz.ntmps235
 go_wp2
 go_end0
 exact ⟨rfl,rfl⟩
/-- The writer at block b: it holds the bytes l; all below B is not its own. -/
abbrev Wr (B b:Nat) (l:List UInt8) (w:World):Prop:=Lib.IsBuilderF 80 5 B b (Lib.byteCells l) w
theorem wCheck_any {B b:Nat} {bs:List Value} {w:World} (h:Lib.IsBuilderF 80 5 B b bs w) :
  Calls Tryz.prog 235 #[.pointer (some ⟨b,0,none⟩)] w fun e w'=>e=.returned (.tuple #[])∧Lib.BuilderAtF 80 5 B b (.pointer (some ⟨b,0,none⟩)) bs w'∧Below B w w'∧Lib.OthersKept 5 (some b) w w':=by
 cases h with
 | inl h=>
  refine (wCheck_new b w h.cell0 h.shape h.frozen0).mono ?_
  rintro e w' ⟨he,hw⟩
  subst hw
  exact ⟨he,h.used _,(Below.refl B w).setCell (p:=⟨b,0,none⟩) h.1 _,(Lib.OthersKept.refl _ _ w).setCell ⟨b,0,none⟩ rfl _⟩
 | inr h=>
  refine (wCheck_used b w h.cell0).mono ?_
  rintro e w' ⟨he,hw⟩
  subst hw
  exact ⟨he,h,Below.refl B _,Lib.OthersKept.refl _ _ _⟩
/-- What a builder's block holds. -/
theorem wr_form {B b:Nat} {bs:List Value} {w:World} (h:Lib.IsBuilderF 80 5 B b bs w):∃ p a cap,w.heap[b]?=some (.cells #[p,.slice a bs.length cap] 80 (0,0)):=by
 have key:∀ p,Lib.BuilderAtF 80 5 B b p bs w→∃ p a cap,w.heap[b]?=some (.cells #[p,.slice a bs.length cap] 80 (0,0)):=by
  rintro p ⟨_,v,hb,ho,_⟩
  rcases ho.2 with ⟨hv,h0⟩ | ⟨g,cap,cur,fz,hv,_⟩
  ·exact ⟨p,none,0,by rw [hb,hv,h0]⟩
  ·exact ⟨p,some ⟨g,0,none⟩,cap,by rw [hb,hv]⟩
 exact h.elim (key _) (key _)
set_option maxHeartbeats 1000000 in
set_option maxRecDepth 100000 in
theorem wLen_any {B b:Nat} {bs:List Value} {w:World} (h:Lib.IsBuilderF 80 5 B b bs w) :
  Calls Tryz.prog 197 #[.pointer (some ⟨b,0,none⟩)] w fun e w'=>e=.returned (.int .i64 bs.length)∧w'=w:=by
 obtain ⟨p,a,cap,hb⟩:=wr_form h
 have c1:w.cell? ⟨b,1,none⟩=some (.slice a bs.length cap):=by rw [Lib.cell_of_heap hb];rfl
 clear h hb
 go_enter Tryz.func197,Tryz.ntmps197
 go_wp2
 go_ret
 exact ⟨rfl,rfl⟩
theorem Tryz.infoU8:(Tryz.prog.info? 5).map (fun i=>(i.zero,i.size,i.bytes))=some (some (.int .u8 0),1,1):=by kernel_rfl
theorem Tryz.undBs:Tryz.prog.underlying 76=some (.slice 5):=by kernel_rfl
theorem Tryz.undStr:Tryz.prog.underlying 9=some .string:=by kernel_rfl
set_option maxHeartbeats 2000000 in
set_option maxRecDepth 100000 in
theorem wWrite_any {B b:Nat} {bs:List Value} {w:World} (s:ByteArray) (h:Lib.IsBuilderF 80 5 B b bs w) (hl:bs.length+s.size≤140737488355328) (hB:B≤w.heap.size) :
  Calls Tryz.prog 198 #[.pointer (some ⟨b,0,none⟩),.string s] w fun e w'=>e=.returned (.tuple #[.int .i64 s.size,.nilIface])∧Lib.IsBuilderF 80 5 B b (bs++Lib.strCells s) w'∧Below B w w'∧Lib.OthersKept 5 (some b) w w':=by
 obtain ⟨iu,hiu,hz,hs1,hb1⟩:=info_parts Tryz.infoU8
 have hch:=fun w' (hw:Lib.IsBuilderF 80 5 B b bs w')=>wCheck_any hw
 go_enter Tryz.func198,Tryz.ntmps198
 go_wp2_with (go_at_call 235;refine (hch _ h).mono ?_)
 rintro e w1 ⟨rfl,⟨hBb,v,hbk,how,hnb⟩,hb1',hk1⟩
 have hsz:=hb1'.size
 have hlt:b < w1.heap.size:=by
  apply Decidable.byContradiction
  intro hn
  rw [Array.getElem?_eq_none (by omega)] at hbk
  cases hbk
 have x0:w1.cell? ⟨b,0,none⟩=some (.pointer (some ⟨b,0,none⟩)):=by rw [Lib.cell_of_heap hbk];rfl
 have x1:w1.cell? ⟨b,1,none⟩=some v:=by rw [Lib.cell_of_heap hbk];rfl
 go_wp2_with (at_builtin;refine Lib.wpList_append_own_stringF _ rfl _ _ 76 9 rfl B 5 iu Tryz.undBs Tryz.undStr hiu hz hs1 hb1 _ _ _ rfl how s rfl ?q1 ?q2 ?q3 ?_)
 case q1=>unfold maxLen;omega
 case q2=>omega
 case q3=>omega
 intro v' w2 how2 hgr _
 have hbk2:w2.heap[b]?=some (.cells #[.pointer (some ⟨b,0,none⟩),v] 80 (0,0)):=(hgr.block b hlt (fun e=>hnb e.symm)).trans hbk
 have y0:w2.cell? ⟨b,0,none⟩=some (.pointer (some ⟨b,0,none⟩)):=by rw [Lib.cell_of_heap hbk2];rfl
 have y1:w2.cell? ⟨b,1,none⟩=some v:=by rw [Lib.cell_of_heap hbk2];rfl
 have yf:w2.frozen? ⟨b,1,none⟩=false:=Lib.frozen_of_heap hbk2 1
 obtain ⟨a2,n2,c2,rfl⟩:∃ a2 n2 c2,v'=.slice a2 n2 c2:=by
  rcases how2.2 with ⟨hv,_⟩ | ⟨g,cap,cur,fz,hv,_⟩
  ·exact ⟨_,_,_,hv⟩
  ·exact ⟨_,_,_,hv⟩
 go_wp2
 go_ret2
 refine ⟨rfl,.inr ?_,?_,?_⟩
 ·exact Lib.BuilderAtF.put (T:=80) (e:=5) hBb hbk2 (bs':=bs++Lib.strCells s) (by simpa [Lib.strCells_length] using how2) (by decide)
 ·exact (hb1'.grown hgr (by omega) (fun k hk=>(how.lt k hk).1)).setCell (p:=⟨b,1,none⟩) hBb _
 ·exact (hk1.grown hgr (Lib.ownsRowF_kind how)).setCell ⟨b,1,none⟩ rfl _
/-- What is written where l was: nothing, if that is too long already. -/
def wpL (l s:List UInt8):List UInt8:=if l.length≤12000 then l++s else l
/-- What a part of the writer leaves of the world. -/
abbrev Wx (B b:Nat) (l:List UInt8) (w w':World):Prop:=Wr B b l w'∧Below B w w'∧Lib.OthersKept 5 (some b) w w'
theorem Wx.trans {B b:Nat} {l l':List UInt8} {w w1 w2:World} (h:Wx B b l w w1) (k:Wx B b l' w1 w2):Wx B b l' w w2:=⟨k.1,h.2.1.trans k.2.1,h.2.2.trans k.2.2⟩
set_option maxHeartbeats 2000000 in
set_option maxRecDepth 100000 in
theorem put_any {B b:Nat} {l:List UInt8} {w:World} (s:ByteArray) (h:Wr B b l w) (hs:s.size≤140737488340000) (hB:B≤w.heap.size) :
  Calls Tryz.prog 138 #[.pointer (some ⟨b,0,none⟩),.string s] w fun e w'=>e=.returned (.tuple #[])∧Wx B b (wpL l (bl s)) w w':=by
 have hn:=wLen_any h
 rw [Lib.byteCells_length] at hn
 have hlen:=Lib.byteCells_length l
 by_cases hl:l.length≤12000
 ·have hw:=wWrite_any s h (by rw [hlen];omega) hB
  have e:wpL l (bl s)=l++bl s:=if_pos hl
  rw [e]
  have e2:Lib.byteCells (l++bl s)=Lib.byteCells l++Lib.strCells s:=Lib.byteCells_append _ _
  unfold Wx Wr
  rw [e2]
  have i1:(l.length:Int)≤12000:=by omega
  generalize Lib.byteCells l++Lib.strCells s=bs' at *
  generalize (l.length:Int)=n at *
  clear h hlen e e2 hl
  go_enter Tryz.func138,Tryz.ntmps138
  go_wp2_with (first
   | (go_at_call 197;refine hn.mono ?_;rintro e w1 ⟨rfl,hw1⟩;subst hw1)
   | (go_at_call 198;refine hw.mono ?_;rintro e w2 ⟨rfl,hr⟩)
   | fail)
  go_end0
  exact ⟨rfl,hr⟩
 ·have e:wpL l (bl s)=l:=if_neg hl
  rw [e]
  have HH:=mkHid h
  have i1:¬ (l.length:Int)≤12000:=by omega
  generalize (l.length:Int)=n at *
  clear h hlen e hl
  go_enter Tryz.func138,Tryz.ntmps138
  go_wp2_with (first
   | (go_at_call 197;refine hn.mono ?_;rintro e w1 ⟨rfl,hw1⟩;subst hw1)
   | fail)
  go_end0
  exact ⟨rfl,HH.out,Below.refl B _,Lib.OthersKept.refl _ _ _⟩
end Go.Proofs.YtfjdceknbdmhpaaGreatDoor
/- Contracts of the library at this program. -/
namespace Go.Proofs.YtfjdceknbdmhpaaGreatDoor
open Go.Shelf
set_option linter.unusedVariables false
def renR:Ren:={ f:=fun x=>match x with | 105=>196 | 212=>232 | 99=>233 | 165=>234 | 166=>198 | 170=>197 | 169=>45 | 263=>257 | 264=>258 | 206=>259 | 240=>235 | 241=>260 | 276=>261 | 277=>275 | n=>n,t:=fun x=>match x with | 9=>9 | 3=>3 | 4=>4 | 20=>20 | 0=>0 | 46=>255 | 109=>277 | 5=>5 | 72=>78 | 76=>227 | 51=>253 | 146=>301 | 53=>212 | 148=>303 | 70=>75 | 37=>76 | 75=>226 | 127=>147 | 164=>305 | 80=>82 | n=>n,g:=fun x=>x }
theorem laysR:Lays.n105 Tryz.prog renR:=
 {mixed:=by kernel_rfl,f99:=Tryz.func233.trans (congrArg some (by kernel_rfl)),f105:=Tryz.func196.trans (congrArg some (by kernel_rfl)),f165:=Tryz.func234.trans (congrArg some (by kernel_rfl)),f166:=Tryz.func198.trans (congrArg some (by kernel_rfl)),f169:=Tryz.func45.trans (congrArg some (by kernel_rfl)),f170:=Tryz.func197.trans (congrArg some (by kernel_rfl)),f206:=Tryz.func259.trans (congrArg some (by kernel_rfl)),f212:=Tryz.func232.trans (congrArg some (by kernel_rfl)),f240:=Tryz.func235.trans (congrArg some (by kernel_rfl)),f241:=Tryz.func260.trans (congrArg some (by kernel_rfl)),f263:=Tryz.func257.trans (congrArg some (by kernel_rfl)),f264:=Tryz.func258.trans (congrArg some (by kernel_rfl)),f276:=Tryz.func261.trans (congrArg some (by kernel_rfl)),f277:=Tryz.func275.trans (congrArg some (by kernel_rfl)),t0:=Tryz.underlying0,a0:=Tryz.isAgg0,z0:=Tryz.sizeOf0,v0:=Tryz.zeroValue0,t3:=Tryz.underlying3,a3:=Tryz.isAgg3,z3:=Tryz.sizeOf3,v3:=Tryz.zeroValue3,t4:=Tryz.underlying4,a4:=Tryz.isAgg4,z4:=Tryz.sizeOf4,v4:=Tryz.zeroValue4,t5:=Tryz.underlying5,a5:=Tryz.isAgg5,z5:=Tryz.sizeOf5,v5:=Tryz.zeroValue5,t9:=Tryz.underlying9,a9:=Tryz.isAgg9,z9:=Tryz.sizeOf9,v9:=Tryz.zeroValue9,t20:=Tryz.underlying20,a20:=Tryz.isAgg20,z20:=Tryz.sizeOf20,v20:=Tryz.zeroValue20,t37:=Tryz.underlying76,a37:=Tryz.isAgg76,z37:=Tryz.sizeOf76,v37:=Tryz.zeroValue76,t46:=Tryz.underlying255,a46:=Tryz.isAgg255,z46:=Tryz.sizeOf255,v46:=Tryz.zeroValue255,t51:=Tryz.underlying253,a51:=Tryz.isAgg253,z51:=Tryz.sizeOf253,v51:=Tryz.zeroValue253,t53:=Tryz.underlying212,a53:=Tryz.isAgg212,z53:=Tryz.sizeOf212,v53:=Tryz.zeroValue212,t70:=Tryz.underlying75,a70:=Tryz.isAgg75,z70:=Tryz.sizeOf75,v70:=Tryz.zeroValue75,t72:=Tryz.underlying78,a72:=Tryz.isAgg78,z72:=Tryz.sizeOf78,v72:=Tryz.zeroValue78,t75:=Tryz.underlying226,a75:=Tryz.isAgg226,z75:=Tryz.sizeOf226,v75:=Tryz.zeroValue226,t76:=Tryz.underlying227,a76:=Tryz.isAgg227,z76:=Tryz.sizeOf227,v76:=Tryz.zeroValue227,t109:=Tryz.underlying277,a109:=Tryz.isAgg277,z109:=Tryz.sizeOf277,v109:=Tryz.zeroValue277,t127:=Tryz.underlying147,a127:=Tryz.isAgg147,z127:=Tryz.sizeOf147,v127:=Tryz.zeroValue147,t146:=Tryz.underlying301,a146:=Tryz.isAgg301,z146:=Tryz.sizeOf301,v146:=Tryz.zeroValue301,t148:=Tryz.underlying303,a148:=Tryz.isAgg303,z148:=Tryz.sizeOf303,v148:=Tryz.zeroValue303,t164:=Tryz.underlying305,a164:=Tryz.isAgg305,z164:=Tryz.sizeOf305,v164:=Tryz.zeroValue305 }
end Go.Proofs.YtfjdceknbdmhpaaGreatDoor
