import Derived.Test.YtlkdaldfklaicaaGreatDoorWvc08
import Derived.Test.YtlkdaldfklaicaaGreatDoorWvc10
import Derived.Deep.RegionHeldLaw
import Derived.Deep.RegionLaw
import Derived.Test.YtlkdaldfklaicaaGreatDoorWvc02
import Derived.Test.YtlkdaldfklaicaaGreatDoorWvc01
import Derived.Test.YtlkdaldfklaicaaGreatDoorRows
import Derived.Deep.Slices
import Derived.ProofKit
import Derived.OpenShut
import Derived.ShutString
import Derived.ChangeOld
import Derived.SizedLaws
import Derived.Below
set_option maxRecDepth 100000
set_option maxHeartbeats 32000000
namespace Go.Proofs.YtlkdaldfklaicaaGreatDoor
open Go.RowKit Go.Lib
set_option linter.unusedSimpArgs false
set_option linter.unusedVariables false
attribute [local go_sem ↓] Go.wp_at_zero Go.wp_at_succ
def dqO (o o':OnC):Bool:=decide (o.1=o'.1) && (decide (o.2.1.1=o'.2.1.1) && (zbR o.2.1.2 o'.2.1.2 && (decide (o.2.2.1=o'.2.2.1) && (decide (o.2.2.2.2=o'.2.2.2.2) && eqL sqS o.2.2.2.1 o'.2.2.2.1))))
theorem zbP (l:List UInt8):∃ s:ByteArray,sD l=.string s/\bl s=l:=⟨⟨l.toArray⟩,rfl,by unfold bl;simp⟩
theorem zhx (n m:Nat):decide (n=m)=((n:Int) == (m:Int)):=by
 rw [Bool.eq_iff_iff,decide_eq_true_eq,beq_iff_eq];omega
theorem zfM {α β:Type}(f:α->β->Bool) (l:List α) (m:List β):eqL f l m=(decide (l.length=m.length) && eqL f l m):=by
 by_cases h:l.length=m.length
 ·rw [decide_eq_true h,Bool.true_and]
 ·rw [zci f l m h,Bool.and_false]
theorem zjD {ok ok':Nat->Prop}{w:World}{o o':OnC}{cs cs':List Value}(h:zba ok w o cs) (h':zba ok' w o' cs') :
  Calls Tryz.prog 36 #[.agg cs.toArray,.agg cs'.toArray] w fun e w'=>e=.returned (.bool (dqO o o'))/\Below w.heap.size w w':=by
 obtain ⟨c0,c1,c2,c3,sl,h1,hx,hs⟩:=h
 obtain ⟨d0,d1,d2,d3,sl',h1',hy,hs'⟩:=h'
 obtain ⟨x1,x2,x3,x4,x5,x6,he⟩:=hx.form
 simp only [Value.agg.injEq,Array.mk.injEq,List.cons.injEq,and_true] at he
 obtain ⟨rfl,rfl,rfl,rfl⟩:=he
 obtain ⟨y1,y2,y3,y4,y5,y6,he⟩:=hy.form
 simp only [Value.agg.injEq,Array.mk.injEq,List.cons.injEq,and_true] at he
 obtain ⟨rfl,rfl,rfl,rfl⟩:=he
 obtain ⟨a,cap,rfl,hlc,hcm,hcell⟩:=zeJ hs
 obtain ⟨a',cap',rfl,hlc',hcm',hcell'⟩:=zeJ hs'
 unfold maxLen at hcm hcm'
 obtain ⟨ev,hev,eb0⟩:=zbP o.1
 obtain ⟨fv,hfv,eb1⟩:=zbP o'.1
 obtain ⟨tg,htg,eb2⟩:=zbP o.2.2.1
 obtain ⟨th,hth,eb3⟩:=zbP o'.2.2.1
 obtain ⟨gb,hgb⟩:∃ x,o.2.1.1=x:=⟨_,rfl⟩
 obtain ⟨hb',hhb⟩:∃ x,o'.2.1.1=x:=⟨_,rfl⟩
 obtain ⟨ol,hol⟩:∃ x,o.2.2.2.2.1=x:=⟨_,rfl⟩
 obtain ⟨oc,hoc⟩:∃ x,o.2.2.2.2.2=x:=⟨_,rfl⟩
 obtain ⟨pl,hpl⟩:∃ x,o'.2.2.2.2.1=x:=⟨_,rfl⟩
 obtain ⟨pc,hpc⟩:∃ x,o'.2.2.2.2.2=x:=⟨_,rfl⟩
 rw [hev,htg,hgb,hol,hoc] at h1
 rw [hfv,hth,hhb,hpl,hpc] at h1'
 subst h1
 subst h1'
 obtain ⟨l,hll⟩:∃ l,o.2.2.2.1=l:=⟨_,rfl⟩
 obtain ⟨l',hll'⟩:∃ l,o'.2.2.2.1=l:=⟨_,rfl⟩
 obtain ⟨V,hV⟩:∃ V,dqO o o'=V:=⟨_,rfl⟩
 rw [hV]
 obtain ⟨e0,he0⟩:∃ e,(ev.toList == fv.toList)=e:=⟨_,rfl⟩
 obtain ⟨e1,he1⟩:∃ e,(gb == hb')=e:=⟨_,rfl⟩
 obtain ⟨e2,he2⟩:∃ e,zbR o.2.1.2 o'.2.1.2=e:=⟨_,rfl⟩
 obtain ⟨e3,he3⟩:∃ e,(tg.toList == th.toList)=e:=⟨_,rfl⟩
 obtain ⟨e4,he4⟩:∃ e,(ol == pl)=e:=⟨_,rfl⟩
 obtain ⟨e5,he5⟩:∃ e,(oc == pc)=e:=⟨_,rfl⟩
 obtain ⟨e6,he6⟩:∃ e,((l.length:Int) == (l'.length:Int))=e:=⟨_,rfl⟩
 have HV:Hid ((e0 && (e1 && (e2 && (e3 && ((e4 && e5) && (e6 && eqL sqS l l'))))))=V):=by
  show _=_
  rw [<- hV]
  unfold dqO
  rw [zfM sqS o.2.2.2.1 o'.2.2.2.1,zhx o.2.2.2.1.length o'.2.2.2.1.length,zer,<- zgL,<- eb0,<- eb1,<- eb2,<- eb3,<- zaK,<- zaK,hgb,hhb,he2,hol,hoc,hpl,hpc,hll,hll',he0,he1,he3,he4,he5,he6]
 rw [hll] at hlc hcell ⊢
 rw [hll'] at hlc' hcell' ⊢
 have HC:Hid (∀ (j:Nat) (hj:j < l.length),∃ b off nm k0 k1 k2 k3 k4 k5,a=some ⟨b,off,none⟩/\b < w.heap.size/\sD l[j].1=.string nm/\RdX ok w l[j].2 (.agg #[.int .i64 k0,.int .i64 k1,.string k2,.slice k3 k4 k5])/\w.cell? ⟨b,off+j*5,none⟩=some (.string nm)/\w.cell? ⟨b,off+j*5+1,none⟩=some (.int .i64 k0)/\w.cell? ⟨b,off+j*5+2,none⟩=some (.int .i64 k1)/\w.cell? ⟨b,off+j*5+3,none⟩=some (.string k2)/\w.cell? ⟨b,off+j*5+4,none⟩=some (.slice k3 k4 k5)):=hcell
 have HC':Hid (∀ (j:Nat) (hj:j < l'.length),∃ b off nm k0 k1 k2 k3 k4 k5,a'=some ⟨b,off,none⟩/\b < w.heap.size/\sD l'[j].1=.string nm/\RdX ok' w l'[j].2 (.agg #[.int .i64 k0,.int .i64 k1,.string k2,.slice k3 k4 k5])/\w.cell? ⟨b,off+j*5,none⟩=some (.string nm)/\w.cell? ⟨b,off+j*5+1,none⟩=some (.int .i64 k0)/\w.cell? ⟨b,off+j*5+2,none⟩=some (.int .i64 k1)/\w.cell? ⟨b,off+j*5+3,none⟩=some (.string k2)/\w.cell? ⟨b,off+j*5+4,none⟩=some (.slice k3 k4 k5)):=hcell'
 obtain ⟨n,hn⟩:∃ n,l.length=n:=⟨_,rfl⟩
 obtain ⟨n2,hn2⟩:∃ n,l'.length=n:=⟨_,rfl⟩
 rw [hn] at hlc he6 ⊢
 rw [hn2] at hlc' he6 ⊢
 have HN:Hid (l.length=n):=hn
 have HN2:Hid (l'.length=n2):=hn2
 have hn6:((n:Int) != (n2:Int)) = !e6:=by rw [<- he6];rfl
 have hn1:(gb != hb') = !e1:=by rw [<- he1];rfl
 have hb0:Below w.heap.size w ((w.alloc (.cells #[.string ev,.bool gb,.int .i64 x1,.int .i64 x2,.string x3,.slice x4 x5 x6,.string tg,.slice a n cap,.int .i64 ol,.int .i64 oc] 82)).alloc (.cells #[.string fv,.bool hb',.int .i64 y1,.int .i64 y2,.string y3,.slice y4 y5 y6,.string th,.slice a' n2 cap',.int .i64 pl,.int .i64 pc] 82)):=((Below.refl w.heap.size w).alloc zn2 _).alloc (by simp) _
 have hA0:Bn ((w.alloc (.cells #[.string ev,.bool gb,.int .i64 x1,.int .i64 x2,.string x3,.slice x4 x5 x6,.string tg,.slice a n cap,.int .i64 ol,.int .i64 oc] 82)).alloc (.cells #[.string fv,.bool hb',.int .i64 y1,.int .i64 y2,.string y3,.slice y4 y5 y6,.string th,.slice a' n2 cap',.int .i64 pl,.int .i64 pc] 82)) w.heap.size [.string ev,.bool gb,.int .i64 x1,.int .i64 x2,.string x3,.slice x4 x5 x6,.string tg,.slice a n cap,.int .i64 ol,.int .i64 oc]:=(Bn.new w [.string ev,.bool gb,.int .i64 x1,.int .i64 x2,.string x3,.slice x4 x5 x6,.string tg,.slice a n cap,.int .i64 ol,.int .i64 oc] 82 _ rfl).on (zn3.alloc zn2 _)
 have hB0:Bn ((w.alloc (.cells #[.string ev,.bool gb,.int .i64 x1,.int .i64 x2,.string x3,.slice x4 x5 x6,.string tg,.slice a n cap,.int .i64 ol,.int .i64 oc] 82)).alloc (.cells #[.string fv,.bool hb',.int .i64 y1,.int .i64 y2,.string y3,.slice y4 y5 y6,.string th,.slice a' n2 cap',.int .i64 pl,.int .i64 pc] 82)) (w.heap.size+1) [.string fv,.bool hb',.int .i64 y1,.int .i64 y2,.string y3,.slice y4 y5 y6,.string th,.slice a' n2 cap',.int .i64 pl,.int .i64 pc]:=Bn.new (w.alloc (.cells #[.string ev,.bool gb,.int .i64 x1,.int .i64 x2,.string x3,.slice x4 x5 x6,.string tg,.slice a n cap,.int .i64 ol,.int .i64 oc] 82)) [.string fv,.bool hb',.int .i64 y1,.int .i64 y2,.string y3,.slice y4 y5 y6,.string th,.slice a' n2 cap',.int .i64 pl,.int .i64 pc] 82 _ (by simp)
 have hcall:=zd9 o.2.1.2.1 ok ok' o'.2.1.2.1 o.2.1.2.2 o'.2.1.2.2 _ _ _ (RdT.below hb0 zn2 hx) (RdT.below hb0 zn2 hy)
 rw [show zaL o.2.1.2.1 o'.2.1.2.1 o.2.1.2.2 o'.2.1.2.2=e2 from he2] at hcall
 have hsame:=fun (w1:World) (y z:Sx) (v v':Value) (h1:RdX ok w1 y v) (h2:RdX ok' w1 z v')=>zd9 y.1 ok ok' z.1 y.2 z.2 v v' w1 h1 h2
 have HSM:=zm hsame
 clear hcell hcell' hs hs' hll hll' hn hn2 hx hy hV he2 hev hfv htg hth hgb hhb hol hoc hpl hpc eb0 eb1 eb2 eb3 hsame
 go_enter Tryz.func36,Tryz.ntmps36
 go_upto_region 1 with fail
 generalize ((w.alloc (.cells #[.string ev,.bool gb,.int .i64 x1,.int .i64 x2,.string x3,.slice x4 x5 x6,.string tg,.slice a n cap,.int .i64 ol,.int .i64 oc] 82)).alloc (.cells #[.string fv,.bool hb',.int .i64 y1,.int .i64 y2,.string y3,.slice y4 y5 y6,.string th,.slice a' n2 cap',.int .i64 pl,.int .i64 pc] 82))=w0 at *
 have p0:=(hA0 0 _ rfl).1
 have q0:=(hB0 0 _ rfl).1
 have p1:=(hA0 1 _ rfl).1
 have q1:=(hB0 1 _ rfl).1
 have p2:=(hA0 2 _ rfl).1
 have q2:=(hB0 2 _ rfl).1
 have p3:=(hA0 3 _ rfl).1
 have q3:=(hB0 3 _ rfl).1
 have p4:=(hA0 4 _ rfl).1
 have q4:=(hB0 4 _ rfl).1
 have p5:=(hA0 5 _ rfl).1
 have q5:=(hB0 5 _ rfl).1
 have p6:=(hA0 6 _ rfl).1
 have q6:=(hB0 6 _ rfl).1
 have p7:=(hA0 7 _ rfl).1
 have q7:=(hB0 7 _ rfl).1
 have p8:=(hA0 8 _ rfl).1
 have q8:=(hB0 8 _ rfl).1
 have p9:=(hA0 9 _ rfl).1
 have q9:=(hB0 9 _ rfl).1
 cases e0 with
 | false=>
  have hF:V=false:=by rw [<- HV.out];simp
  subst hF
  have hBw:Below w0.heap.size w0 w0:=Below.refl _ _
  go_wp2_with (first
   | (go_at_call 58;refine hcall.mono ?_;rintro r w1 ⟨rfl,b1⟩;have hBw:=Below.nx hBw b1;obtain ⟨r6,_⟩:=(hA0.on b1) 6 _ rfl;obtain ⟨s6,_⟩:=(hB0.on b1) 6 _ rfl;obtain ⟨r7,_⟩:=(hA0.on b1) 7 _ rfl;obtain ⟨s7,_⟩:=(hB0.on b1) 7 _ rfl;obtain ⟨r8,_⟩:=(hA0.on b1) 8 _ rfl;obtain ⟨s8,_⟩:=(hB0.on b1) 8 _ rfl;obtain ⟨r9,_⟩:=(hA0.on b1) 9 _ rfl;obtain ⟨s9,_⟩:=(hB0.on b1) 9 _ rfl)
   | fail)
  go_ret
  exact ⟨rfl,hb0.trans (hBw.mono hb0.size)⟩
 | true=>
 cases e1 with
 | false=>
  have hF:V=false:=by rw [<- HV.out];simp
  subst hF
  have hBw:Below w0.heap.size w0 w0:=Below.refl _ _
  go_wp2_with (first
   | (go_at_call 58;refine hcall.mono ?_;rintro r w1 ⟨rfl,b1⟩;have hBw:=Below.nx hBw b1;obtain ⟨r6,_⟩:=(hA0.on b1) 6 _ rfl;obtain ⟨s6,_⟩:=(hB0.on b1) 6 _ rfl;obtain ⟨r7,_⟩:=(hA0.on b1) 7 _ rfl;obtain ⟨s7,_⟩:=(hB0.on b1) 7 _ rfl;obtain ⟨r8,_⟩:=(hA0.on b1) 8 _ rfl;obtain ⟨s8,_⟩:=(hB0.on b1) 8 _ rfl;obtain ⟨r9,_⟩:=(hA0.on b1) 9 _ rfl;obtain ⟨s9,_⟩:=(hB0.on b1) 9 _ rfl)
   | fail)
  go_ret
  exact ⟨rfl,hb0.trans (hBw.mono hb0.size)⟩
 | true=>
 cases e2 with
 | false=>
  have hF:V=false:=by rw [<- HV.out];simp
  subst hF
  have hBw:Below w0.heap.size w0 w0:=Below.refl _ _
  go_wp2_with (first
   | (go_at_call 58;refine hcall.mono ?_;rintro r w1 ⟨rfl,b1⟩;have hBw:=Below.nx hBw b1;obtain ⟨r6,_⟩:=(hA0.on b1) 6 _ rfl;obtain ⟨s6,_⟩:=(hB0.on b1) 6 _ rfl;obtain ⟨r7,_⟩:=(hA0.on b1) 7 _ rfl;obtain ⟨s7,_⟩:=(hB0.on b1) 7 _ rfl;obtain ⟨r8,_⟩:=(hA0.on b1) 8 _ rfl;obtain ⟨s8,_⟩:=(hB0.on b1) 8 _ rfl;obtain ⟨r9,_⟩:=(hA0.on b1) 9 _ rfl;obtain ⟨s9,_⟩:=(hB0.on b1) 9 _ rfl)
   | fail)
  go_ret
  exact ⟨rfl,hb0.trans (hBw.mono hb0.size)⟩
 | true=>
 cases e3 with
 | false=>
  have hF:V=false:=by rw [<- HV.out];simp
  subst hF
  have hBw:Below w0.heap.size w0 w0:=Below.refl _ _
  go_wp2_with (first
   | (go_at_call 58;refine hcall.mono ?_;rintro r w1 ⟨rfl,b1⟩;have hBw:=Below.nx hBw b1;obtain ⟨r6,_⟩:=(hA0.on b1) 6 _ rfl;obtain ⟨s6,_⟩:=(hB0.on b1) 6 _ rfl;obtain ⟨r7,_⟩:=(hA0.on b1) 7 _ rfl;obtain ⟨s7,_⟩:=(hB0.on b1) 7 _ rfl;obtain ⟨r8,_⟩:=(hA0.on b1) 8 _ rfl;obtain ⟨s8,_⟩:=(hB0.on b1) 8 _ rfl;obtain ⟨r9,_⟩:=(hA0.on b1) 9 _ rfl;obtain ⟨s9,_⟩:=(hB0.on b1) 9 _ rfl)
   | fail)
  go_ret
  exact ⟨rfl,hb0.trans (hBw.mono hb0.size)⟩
 | true=>
 cases e4 with
 | false=>
  have hF:V=false:=by rw [<- HV.out];simp
  subst hF
  have hBw:Below w0.heap.size w0 w0:=Below.refl _ _
  go_wp2_with (first
   | (go_at_call 58;refine hcall.mono ?_;rintro r w1 ⟨rfl,b1⟩;have hBw:=Below.nx hBw b1;obtain ⟨r6,_⟩:=(hA0.on b1) 6 _ rfl;obtain ⟨s6,_⟩:=(hB0.on b1) 6 _ rfl;obtain ⟨r7,_⟩:=(hA0.on b1) 7 _ rfl;obtain ⟨s7,_⟩:=(hB0.on b1) 7 _ rfl;obtain ⟨r8,_⟩:=(hA0.on b1) 8 _ rfl;obtain ⟨s8,_⟩:=(hB0.on b1) 8 _ rfl;obtain ⟨r9,_⟩:=(hA0.on b1) 9 _ rfl;obtain ⟨s9,_⟩:=(hB0.on b1) 9 _ rfl)
   | fail)
  go_ret
  exact ⟨rfl,hb0.trans (hBw.mono hb0.size)⟩
 | true=>
 cases e5 with
 | false=>
  have hF:V=false:=by rw [<- HV.out];simp
  subst hF
  have hBw:Below w0.heap.size w0 w0:=Below.refl _ _
  go_wp2_with (first
   | (go_at_call 58;refine hcall.mono ?_;rintro r w1 ⟨rfl,b1⟩;have hBw:=Below.nx hBw b1;obtain ⟨r6,_⟩:=(hA0.on b1) 6 _ rfl;obtain ⟨s6,_⟩:=(hB0.on b1) 6 _ rfl;obtain ⟨r7,_⟩:=(hA0.on b1) 7 _ rfl;obtain ⟨s7,_⟩:=(hB0.on b1) 7 _ rfl;obtain ⟨r8,_⟩:=(hA0.on b1) 8 _ rfl;obtain ⟨s8,_⟩:=(hB0.on b1) 8 _ rfl;obtain ⟨r9,_⟩:=(hA0.on b1) 9 _ rfl;obtain ⟨s9,_⟩:=(hB0.on b1) 9 _ rfl)
   | fail)
  go_ret
  exact ⟨rfl,hb0.trans (hBw.mono hb0.size)⟩
 | true=>
 cases e6 with
 | false=>
  have hF:V=false:=by rw [<- HV.out];simp
  subst hF
  have hBw:Below w0.heap.size w0 w0:=Below.refl _ _
  go_wp2_with (first
   | (go_at_call 58;refine hcall.mono ?_;rintro r w1 ⟨rfl,b1⟩;have hBw:=Below.nx hBw b1;obtain ⟨r6,_⟩:=(hA0.on b1) 6 _ rfl;obtain ⟨s6,_⟩:=(hB0.on b1) 6 _ rfl;obtain ⟨r7,_⟩:=(hA0.on b1) 7 _ rfl;obtain ⟨s7,_⟩:=(hB0.on b1) 7 _ rfl;obtain ⟨r8,_⟩:=(hA0.on b1) 8 _ rfl;obtain ⟨s8,_⟩:=(hB0.on b1) 8 _ rfl;obtain ⟨r9,_⟩:=(hA0.on b1) 9 _ rfl;obtain ⟨s9,_⟩:=(hB0.on b1) 9 _ rfl)
   | fail)
  go_ret
  exact ⟨rfl,hb0.trans (hBw.mono hb0.size)⟩
 | true=>
 have HVT:Hid (eqL sqS (l.drop 0) (l'.drop 0)=V):=by show _=_;have:=HV.out;simpa using this
 have hnn:n2=n:=by have:=he6;rw [beq_iff_eq] at this;omega
 subst hnn
 have hBw:Below w0.heap.size w0 w0:=Below.refl _ _
 go_wp2_with (first
  | (go_at_call 58;refine hcall.mono ?_;rintro r w1 ⟨rfl,b1⟩;have hBw:=Below.nx hBw b1;obtain ⟨r6,_⟩:=(hA0.on b1) 6 _ rfl;obtain ⟨s6,_⟩:=(hB0.on b1) 6 _ rfl;obtain ⟨r7,_⟩:=(hA0.on b1) 7 _ rfl;obtain ⟨s7,_⟩:=(hB0.on b1) 7 _ rfl;obtain ⟨r8,_⟩:=(hA0.on b1) 8 _ rfl;obtain ⟨s8,_⟩:=(hB0.on b1) 8 _ rfl;obtain ⟨r9,_⟩:=(hA0.on b1) 9 _ rfl;obtain ⟨s9,_⟩:=(hB0.on b1) 9 _ rfl)
  | fail)
 have hA1:=hA0.on b1
 have hB1:=hB0.on b1
 have hb1:=hb0.trans (b1.mono hb0.size)
 clear hcall p0 q0 p1 q1 p2 q2 p3 q3 p4 q4 p5 q5 p6 q6 p7 q7 p8 q8 p9 q9 r6 s6 r7 s7 r8 s8 r9 s9 hA0 hB0 hb0 b1 hBw he0 he1 he3 he4 he5 he6 hn6 hn1 HV
 go_loopw [52] (fun i wr=>∃ (j:Nat),j<=n2/\i=.int .i64 (j:Int)/\Hid (eqL sqS (l.drop j) (l'.drop j)=V)/\Bn wr w.heap.size [.string ev,.bool gb,.int .i64 x1,.int .i64 x2,.string x3,.slice x4 x5 x6,.string tg,.slice a n2 cap,.int .i64 ol,.int .i64 oc]/\Bn wr (w.heap.size+1) [.string fv,.bool hb',.int .i64 y1,.int .i64 y2,.string y3,.slice y4 y5 y6,.string th,.slice a' n2 cap',.int .i64 pl,.int .i64 pc]/\Below w.heap.size w wr) (fun i _=>n2 - (RowKit.intOf i).toNat)
 case atStart=>exact ⟨0,Nat.zero_le _,rfl,HVT,hA1,hB1,hb1⟩
 case round=>
  clear hA1 hB1 hb1 HVT
  obtain ⟨j,hj,rfl,HI,hA,hB,hb⟩:=hrel
  have y7:=(hA 7 _ rfl).1
  have z7:=(hB 7 _ rfl).1
  by_cases hlt:j < n2
  ·have hjl:j < l.length:=by rw [HN.out];exact hlt
   have hjl':j < l'.length:=by rw [HN2.out];exact hlt
   have HI2:Hid ((sqS l[j] l'[j] && eqL sqS (l.drop (j+1)) (l'.drop (j+1)))=V):=by
    show _=_
    rw [<- zcB sqS hjl hjl'];exact HI.out
   obtain ⟨b,off,nm,k0,k1,k2,k3,k4,k5,rfl,hbl,hnm,hr,e0,e1,e2,e3,e4⟩:=HC.out j hjl
   obtain ⟨b',off',nm',l0,l1,l2,l3,l4,l5,rfl,hbl',hnm',hr',e0',e1',e2',e3',e4'⟩:=HC'.out j hjl'
   obtain ⟨s1,hs1,eb1⟩:=zbP l[j].1
   obtain ⟨s2,hs2,eb2⟩:=zbP l'[j].1
   obtain rfl:nm=s1:=Value.string.inj (hnm.symm.trans hs1)
   obtain rfl:nm'=s2:=Value.string.inj (hnm'.symm.trans hs2)
   have C0:=(hb.cell (p:=⟨b,off+j*5,none⟩) hbl).trans e0
   have C1:=(hb.cell (p:=⟨b,off+j*5+1,none⟩) hbl).trans e1
   have C2:=(hb.cell (p:=⟨b,off+j*5+2,none⟩) hbl).trans e2
   have C3:=(hb.cell (p:=⟨b,off+j*5+3,none⟩) hbl).trans e3
   have C4:=(hb.cell (p:=⟨b,off+j*5+4,none⟩) hbl).trans e4
   have D0:=(hb.cell (p:=⟨b',off'+j*5,none⟩) hbl').trans e0'
   have D1:=(hb.cell (p:=⟨b',off'+j*5+1,none⟩) hbl').trans e1'
   have D2:=(hb.cell (p:=⟨b',off'+j*5+2,none⟩) hbl').trans e2'
   have D3:=(hb.cell (p:=⟨b',off'+j*5+3,none⟩) hbl').trans e3'
   have D4:=(hb.cell (p:=⟨b',off'+j*5+4,none⟩) hbl').trans e4'
   have hcall:=HSM.out wr.drew l[j].2 l'[j].2 _ _ (RdT.below hb.drew zn2 hr) (RdT.below hb.drew zn2 hr')
   obtain ⟨g0,hg0⟩:∃ e,(nm.toList == nm'.toList)=e:=⟨_,rfl⟩
   obtain ⟨g1,hg1⟩:∃ e,zaL l[j].2.1 l'[j].2.1 l[j].2.2 l'[j].2.2=e:=⟨_,rfl⟩
   rw [hg1] at hcall
   have HI3:Hid (((g0 && g1) && eqL sqS (l.drop (j+1)) (l'.drop (j+1)))=V):=by
    show _=_
    rw [<- HI2.out]
    unfold sqS
    rw [<- eb1,<- eb2,<- zaK,hg0,show zbR l[j].2 l'[j].2=g1 from hg1]
   have i1:(j:Int) < (n2:Int):=by omega
   have i2:(0:Int)<=(j:Int):=by omega
   clear e0 e1 e2 e3 e4 e0' e1' e2' e3' e4' hr hr' hbl hbl' hnm hnm' hs1 hs2 eb1 eb2 hg1 HI2 HI
   cases g0 with
   | false=>
    have hF:V=false:=by rw [<- HI3.out];simp
    subst hF
    clear hcall C1 C2 C3 C4 D1 D2 D3 D4
    go_wp2
    go_quiet (fail)
    go_wp2
    go_ret
    exact ⟨rfl,hb.trans ⟨rfl,rfl,rfl,Nat.le_refl _,fun _ _=>rfl⟩⟩
   | true=>
    cases g1 with
    | false=>
     have hF:V=false:=by rw [<- HI3.out];simp
     subst hF
     go_wp2
     go_region_held (fun w'=>w'.cell? ⟨w.heap.size,7,none⟩=some (.slice (some ⟨b,off,none⟩) n2 cap)/\w'.cell? ⟨w.heap.size+1,7,none⟩=some (.slice (some ⟨b',off',none⟩) n2 cap')/\w'.cell? ⟨b,off+j*5,none⟩=some (.string nm)/\w'.cell? ⟨b,off+j*5+1,none⟩=some (.int .i64 k0)/\w'.cell? ⟨b,off+j*5+2,none⟩=some (.int .i64 k1)/\w'.cell? ⟨b,off+j*5+3,none⟩=some (.string k2)/\w'.cell? ⟨b,off+j*5+4,none⟩=some (.slice k3 k4 k5)/\w'.cell? ⟨b',off'+j*5,none⟩=some (.string nm')/\w'.cell? ⟨b',off'+j*5+1,none⟩=some (.int .i64 l0)/\w'.cell? ⟨b',off'+j*5+2,none⟩=some (.int .i64 l1)/\w'.cell? ⟨b',off'+j*5+3,none⟩=some (.string l2)/\w'.cell? ⟨b',off'+j*5+4,none⟩=some (.slice l3 l4 l5))
      (first|exact ⟨y7,z7,C0,C1,C2,C3,C4,D0,D1,D2,D3,D4⟩|exact ⟨kc _ _ y7,kc _ _ z7,kc _ _ C0,kc _ _ C1,kc _ _ C2,kc _ _ C3,kc _ _ C4,kc _ _ D0,kc _ _ D1,kc _ _ D2,kc _ _ D3,kc _ _ D4⟩|go_keep)
      (first|(go_at_call 58;refine hcall.mono ?_;rintro r w1 ⟨rfl,b1⟩;have bw:Below wr.heap.size wr w1:=((Below.refl _ wr).drew).trans b1;have kc:∀ p u,wr.cell? p=some u->w1.cell? p=some u:=fun p u hp=>(by rw [bw.cell (World.block_lt_of_cell? wr _ hp)];exact hp)))
     go_wp2
     go_ret
     exact ⟨rfl,hb.trans (bw.mono hb.size)⟩
    | true=>
     have HI4:Hid (eqL sqS (l.drop (j+1)) (l'.drop (j+1))=V):=by show _=_;have:=HI3.out;simpa using this
     go_wp2
     go_region_held (fun w'=>w'.cell? ⟨w.heap.size,7,none⟩=some (.slice (some ⟨b,off,none⟩) n2 cap)/\w'.cell? ⟨w.heap.size+1,7,none⟩=some (.slice (some ⟨b',off',none⟩) n2 cap')/\w'.cell? ⟨b,off+j*5,none⟩=some (.string nm)/\w'.cell? ⟨b,off+j*5+1,none⟩=some (.int .i64 k0)/\w'.cell? ⟨b,off+j*5+2,none⟩=some (.int .i64 k1)/\w'.cell? ⟨b,off+j*5+3,none⟩=some (.string k2)/\w'.cell? ⟨b,off+j*5+4,none⟩=some (.slice k3 k4 k5)/\w'.cell? ⟨b',off'+j*5,none⟩=some (.string nm')/\w'.cell? ⟨b',off'+j*5+1,none⟩=some (.int .i64 l0)/\w'.cell? ⟨b',off'+j*5+2,none⟩=some (.int .i64 l1)/\w'.cell? ⟨b',off'+j*5+3,none⟩=some (.string l2)/\w'.cell? ⟨b',off'+j*5+4,none⟩=some (.slice l3 l4 l5))
      (first|exact ⟨y7,z7,C0,C1,C2,C3,C4,D0,D1,D2,D3,D4⟩|exact ⟨kc _ _ y7,kc _ _ z7,kc _ _ C0,kc _ _ C1,kc _ _ C2,kc _ _ C3,kc _ _ C4,kc _ _ D0,kc _ _ D1,kc _ _ D2,kc _ _ D3,kc _ _ D4⟩|go_keep)
      (first|(go_at_call 58;refine hcall.mono ?_;rintro r w1 ⟨rfl,b1⟩;have bw:Below wr.heap.size wr w1:=((Below.refl _ wr).drew).trans b1;have kc:∀ p u,wr.cell? p=some u->w1.cell? p=some u:=fun p u hp=>(by rw [bw.cell (World.block_lt_of_cell? wr _ hp)];exact hp)))
     go_wp2
     go_roundw
     case rel=>exact ⟨j+1,hlt,by go_num,HI4,hA.on bw,hB.on bw,hb.trans (bw.mono hb.size)⟩
     case measure=>simp [RowKit.intOf];omega
  ·have i1:¬ (j:Int) < (n2:Int):=by omega
   have hV:V=true:=by rw [<- HI.out];exact zbO sqS (by rw [HN.out];omega) (by rw [HN2.out];omega)
   subst hV
   go_wp2
   go_ret
   exact ⟨rfl,hb⟩
def dqH (h h':HdC) (b:Bool):Bool:=decide (h.1.1=h'.1.1) && (decide (h.1.2=h'.1.2) && (decide (h.2.1.1=h'.2.1.1) && (decide (h.2.1.2=h'.2.1.2) && (decide (h.2.2.1.1=h'.2.2.1.1) && (decide (h.2.2.1.2=h'.2.2.1.2) && (decide (h.2.2.2.1.1=h'.2.2.2.1.1) && (decide (h.2.2.2.1.2=h'.2.2.2.1.2) && (b && eqL dqO h.2.2.2.2 h'.2.2.2.2))))))))
def dqT:(d e:Nat)->St d->St e->Bool
 | 0,_,x,_=>Empty.elim x
 | _+1,0,_,x=>Empty.elim x
 | d+1,e+1,t,u=>dqH t.1 u.1 (eqL (dqT d e) t.2 u.2)
theorem zgT (h:HdC):∃ sn sl sc sb se sd su sw sr,hdD h=(fun so si=>[.string sn,.int .i64 sl,.int .i64 sc,.bool sb,.bool se,.string sd,.string su,.int .i64 sw,.int .i64 sr,so,si])/\bl sn=h.1.1/\h.1.2=(sl,sc)/\h.2.1.1=sb/\h.2.1.2=se/\bl sd=h.2.2.1.1/\bl su=h.2.2.1.2/\h.2.2.2.1.1=sw/\h.2.2.2.1.2=sr:=
 ⟨_,_,_,_,_,_,_,_,_,rfl,by unfold bl;simp,rfl,rfl,rfl,by unfold bl;simp,by unfold bl;simp,rfl,rfl⟩
def SsG (d de:Nat):Prop:=∀ (ok ok':Nat->Prop) (w:World) (l:List (St d)) (l':List (St de)) (v v':Value),RdK ok w 11 (zad d ok w) l v->RdK ok' w 11 (zad de ok' w) l' v'->
 Calls Tryz.prog 19 #[v,v'] w fun e w'=>e=.returned (.bool (eqL (dqT d de) l l'))/\Below w.heap.size w w'
theorem zmA {w:World}{a a':Option Addr}{n n' cap cap':Nat}(h:n≠n'):Calls Tryz.prog 19 #[.slice a n cap,.slice a' n' cap'] w fun e w'=>e=.returned (.bool false)/\Below w.heap.size w w':=by
 have hn:((n:Int) != (n':Int))=true:=by rw [bne_iff_ne];omega
 go_enter Tryz.func19,Tryz.ntmps19
 go_wp2
 go_ret
 exact ⟨rfl,Below.refl _ _⟩
theorem zmY {w:World}{a a':Option Addr}{cap cap':Nat}:Calls Tryz.prog 19 #[.slice a 0 cap,.slice a' 0 cap'] w fun e w'=>e=.returned (.bool true)/\Below w.heap.size w w':=by
 go_enter Tryz.func19,Tryz.ntmps19
 go_wp2
 go_loopw [16] (fun i wr=>i=.int .i64 0/\Below w.heap.size w wr) (fun _ _=>0)
 case atStart=>exact ⟨rfl,Below.refl _ _⟩
 case round=>
  obtain ⟨rfl,hb⟩:=hrel
  go_wp2
  go_ret
  exact ⟨rfl,hb⟩
theorem zkS {d de:Nat}(h0:d=0∨de=0):SsG d de:=by
 intro ok ok' w l l' v v' h h'
 obtain ⟨a,cap,rfl,_⟩:=h.form
 obtain ⟨a',cap',rfl,_⟩:=h'.form
 by_cases hl:l.length=l'.length
 ·have h1:l.length=0:=by
   rcases h0 with rfl|rfl
   ·cases l with
    | nil=>rfl
    | cons x _=>exact Empty.elim x
   ·rw [hl]
    cases l' with
    | nil=>rfl
    | cons x _=>exact Empty.elim x
  have h2:l'.length=0:=hl.symm.trans h1
  rw [h1,h2,List.length_eq_zero_iff.mp h1,List.length_eq_zero_iff.mp h2]
  exact zmY
 ·rw [zci _ _ _ hl]
  exact zmA hl
theorem zl5 (d de:Nat) (IH:SsG d de):SsG (d+1) (de+1):=by
 intro ok ok' w l l' v v' h h'
 by_cases hll:l.length=l'.length
 rotate_left
 ·obtain ⟨a,cap,rfl,_⟩:=h.form
  obtain ⟨a',cap',rfl,_⟩:=h'.form
  rw [zci _ _ _ hll]
  exact zmA hll
 obtain ⟨a,cap,rfl,hlc,hcm,hcell⟩:=zfn h
 obtain ⟨a',cap',rfl,hlc',hcm',hcell'⟩:=zfn h'
 unfold maxLen at hcm hcm'
 have HC:Hid (∀ (j:Nat) (hj:j < l.length),∃ b off p1 p3 p4 p6,a=some ⟨b,off,none⟩/\b < w.heap.size/\RdK ok w 10 (zba ok w) l[j].1.2.2.2.2 (.slice p1 l[j].1.2.2.2.2.length p3)/\RdK ok w 11 (zad d ok w) l[j].2 (.slice p4 l[j].2.length p6)/\∀ i u,(hdD l[j].1 (.slice p1 l[j].1.2.2.2.2.length p3) (.slice p4 l[j].2.length p6))[i]?=some u->w.cell? ⟨b,off+j*11+i,none⟩=some u):=hcell
 have HC':Hid (∀ (j:Nat) (hj:j < l'.length),∃ b off p1 p3 p4 p6,a'=some ⟨b,off,none⟩/\b < w.heap.size/\RdK ok' w 10 (zba ok' w) l'[j].1.2.2.2.2 (.slice p1 l'[j].1.2.2.2.2.length p3)/\RdK ok' w 11 (zad de ok' w) l'[j].2 (.slice p4 l'[j].2.length p6)/\∀ i u,(hdD l'[j].1 (.slice p1 l'[j].1.2.2.2.2.length p3) (.slice p4 l'[j].2.length p6))[i]?=some u->w.cell? ⟨b,off+j*11+i,none⟩=some u):=hcell'
 obtain ⟨n,hn⟩:∃ n,l.length=n:=⟨_,rfl⟩
 have hn2:l'.length=n:=hll.symm.trans hn
 obtain ⟨V,hV⟩:∃ V,eqL (dqT (d+1) (de+1)) l l'=V:=⟨_,rfl⟩
 rw [hV]
 have HV0:Hid (eqL (dqT (d+1) (de+1)) (l.drop 0) (l'.drop 0)=V):=hV
 rw [hn] at hlc ⊢
 rw [hn2] at hlc' ⊢
 have HN:Hid (l.length=n):=hn
 have HN2:Hid (l'.length=n):=hn2
 clear hcell hcell' hn hn2 h h' hll hV
 go_enter Tryz.func19,Tryz.ntmps19
 go_wp2
 go_loopw [16] (fun i wr=>∃ (j:Nat),j<=n/\i=.int .i64 (j:Int)/\Hid (eqL (dqT (d+1) (de+1)) (l.drop j) (l'.drop j)=V)/\Below w.heap.size w wr) (fun i _=>n - (RowKit.intOf i).toNat)
 case atStart=>exact ⟨0,Nat.zero_le _,rfl,HV0,Below.refl _ _⟩
 case round=>
  clear HV0
  obtain ⟨j,hj,rfl,HE,hb⟩:=hrel
  by_cases hlt:j < n
  ·have hjl:j < l.length:=by rw [HN.out];exact hlt
   have hjl':j < l'.length:=by rw [HN2.out];exact hlt
   have hE:=HE.out
   rw [zcB _ hjl hjl'] at hE
   obtain ⟨b,off,p1,p3,p4,p6,rfl,hbl,hO,hI,hc⟩:=HC.out j hjl
   obtain ⟨b',off',q1,q3,q4,q6,rfl,hbl',hO',hI',hc'⟩:=HC'.out j hjl'
   obtain ⟨sn,sl,sc,sb,se,sd,su,sw,sr,hsv,es0,es1,es2,es3,es4,es5,es6,es7⟩:=zgT l[j].1
   obtain ⟨zn,zl,zc,zb,ze,zd,zu,zw,zr,hzv,ez0,ez1,ez2,ez3,ez4,ez5,ez6,ez7⟩:=zgT l'[j].1
   rw [hsv] at hc
   rw [hzv] at hc'
   obtain ⟨t,ht⟩:∃ t,l[j]=t:=⟨_,rfl⟩
   obtain ⟨u,hu⟩:∃ t,l'[j]=t:=⟨_,rfl⟩
   rw [ht] at hO hI hc hE es0 es1 es2 es3 es4 es5 es6 es7
   rw [hu] at hO' hI' hc' hE ez0 ez1 ez2 ez3 ez4 ez5 ez6 ez7
   obtain ⟨m,hm⟩:∃ m,t.1.2.2.2.2.length=m:=⟨_,rfl⟩
   obtain ⟨m2,hm2⟩:∃ m,u.1.2.2.2.2.length=m:=⟨_,rfl⟩
   obtain ⟨i,hi⟩:∃ m,t.2.length=m:=⟨_,rfl⟩
   obtain ⟨i2,hi2⟩:∃ m,u.2.length=m:=⟨_,rfl⟩
   rw [hm] at hO hc
   rw [hm2] at hO' hc'
   rw [hi] at hI hc
   rw [hi2] at hI' hc'
   obtain ⟨RS,hRS⟩:∃ e,eqL (dqT (d+1) (de+1)) (l.drop (j+1)) (l'.drop (j+1))=e:=⟨_,rfl⟩
   rw [hRS] at hE
   obtain ⟨e0,he0⟩:∃ e,(sn.toList == zn.toList)=e:=⟨_,rfl⟩
   obtain ⟨e1,he1⟩:∃ e,(sl == zl)=e:=⟨_,rfl⟩
   obtain ⟨e2,he2⟩:∃ e,(sc == zc)=e:=⟨_,rfl⟩
   obtain ⟨e3,he3⟩:∃ e,(sb == zb)=e:=⟨_,rfl⟩
   obtain ⟨e4,he4⟩:∃ e,(se == ze)=e:=⟨_,rfl⟩
   obtain ⟨e5,he5⟩:∃ e,(sd.toList == zd.toList)=e:=⟨_,rfl⟩
   obtain ⟨e6,he6⟩:∃ e,(su.toList == zu.toList)=e:=⟨_,rfl⟩
   obtain ⟨e7,he7⟩:∃ e,(sw == zw)=e:=⟨_,rfl⟩
   obtain ⟨e8,he8⟩:∃ e,(sr == zr)=e:=⟨_,rfl⟩
   obtain ⟨e9,he9⟩:∃ e,((m:Int) == (m2:Int))=e:=⟨_,rfl⟩
   obtain ⟨e10,he10⟩:∃ e,eqL (dqT d de) t.2 u.2=e:=⟨_,rfl⟩
   have HI3:Hid ((e0 && ((e1 && e2) && (e3 && (e4 && (e5 && (e6 && (e7 && (e8 && (e10 && (e9 && (eqL dqO t.1.2.2.2.2 u.1.2.2.2.2 && RS)))))))))))=V):=by
    show _=_
    rw [<- hE]
    show _=(dqH t.1 u.1 (eqL (dqT d de) t.2 u.2) && RS)
    unfold dqH
    rw [zfM dqO t.1.2.2.2.2 u.1.2.2.2.2,zhx t.1.2.2.2.2.length u.1.2.2.2.2.length,hm,hm2,he10,zer t.1.1.2 u.1.1.2,es1,ez1,es2,es3,ez2,ez3,es6,es7,ez6,ez7,<- es0,<- ez0,<- es4,<- ez4,<- es5,<- ez5,<- zaK,<- zaK,<- zaK,<- zgL,<- zgL,<- zen,<- zen,he0,he1,he2,he3,he4,he5,he6,he7,he8,he9]
    simp only [Bool.and_assoc]
    cases e9<;>simp
   have hn3:(sb != zb) = !e3:=by rw [<- he3];rfl
   have hn4:(se != ze) = !e4:=by rw [<- he4];rfl
   have hn7:(sw != zw) = !e7:=by rw [<- he7];rfl
   have hn8:(sr != zr) = !e8:=by rw [<- he8];rfl
   have hn9:((m:Int) != (m2:Int)) = !e9:=by rw [<- he9];rfl
   have HRS:=zm hRS
   clear es0 es1 es2 es3 es4 es5 es6 es7 ez0 ez1 ez2 ez3 ez4 ez5 ez6 ez7 hE HE hRS
   have C0:=(hb.cell (p:=⟨b,off+j*11+0,none⟩) hbl).trans (hc 0 _ rfl)
   have D0:=(hb.cell (p:=⟨b',off'+j*11+0,none⟩) hbl').trans (hc' 0 _ rfl)
   have C1:=(hb.cell (p:=⟨b,off+j*11+1,none⟩) hbl).trans (hc 1 _ rfl)
   have D1:=(hb.cell (p:=⟨b',off'+j*11+1,none⟩) hbl').trans (hc' 1 _ rfl)
   have C2:=(hb.cell (p:=⟨b,off+j*11+2,none⟩) hbl).trans (hc 2 _ rfl)
   have D2:=(hb.cell (p:=⟨b',off'+j*11+2,none⟩) hbl').trans (hc' 2 _ rfl)
   have C3:=(hb.cell (p:=⟨b,off+j*11+3,none⟩) hbl).trans (hc 3 _ rfl)
   have D3:=(hb.cell (p:=⟨b',off'+j*11+3,none⟩) hbl').trans (hc' 3 _ rfl)
   have C4:=(hb.cell (p:=⟨b,off+j*11+4,none⟩) hbl).trans (hc 4 _ rfl)
   have D4:=(hb.cell (p:=⟨b',off'+j*11+4,none⟩) hbl').trans (hc' 4 _ rfl)
   have C5:=(hb.cell (p:=⟨b,off+j*11+5,none⟩) hbl).trans (hc 5 _ rfl)
   have D5:=(hb.cell (p:=⟨b',off'+j*11+5,none⟩) hbl').trans (hc' 5 _ rfl)
   have C6:=(hb.cell (p:=⟨b,off+j*11+6,none⟩) hbl).trans (hc 6 _ rfl)
   have D6:=(hb.cell (p:=⟨b',off'+j*11+6,none⟩) hbl').trans (hc' 6 _ rfl)
   have C7:=(hb.cell (p:=⟨b,off+j*11+7,none⟩) hbl).trans (hc 7 _ rfl)
   have D7:=(hb.cell (p:=⟨b',off'+j*11+7,none⟩) hbl').trans (hc' 7 _ rfl)
   have C8:=(hb.cell (p:=⟨b,off+j*11+8,none⟩) hbl).trans (hc 8 _ rfl)
   have D8:=(hb.cell (p:=⟨b',off'+j*11+8,none⟩) hbl').trans (hc' 8 _ rfl)
   have C9:=(hb.cell (p:=⟨b,off+j*11+9,none⟩) hbl).trans (hc 9 _ rfl)
   have D9:=(hb.cell (p:=⟨b',off'+j*11+9,none⟩) hbl').trans (hc' 9 _ rfl)
   have C10:=(hb.cell (p:=⟨b,off+j*11+10,none⟩) hbl).trans (hc 10 _ rfl)
   have D10:=(hb.cell (p:=⟨b',off'+j*11+10,none⟩) hbl').trans (hc' 10 _ rfl)
   rw [Nat.add_zero] at C0 D0
   have i1:(j:Int) < (n:Int):=by omega
   have i2':(0:Int)<=(j:Int):=by omega
   clear hc hc' hsv hzv ht hu hjl hjl'
   go_wp2
   have HI:Hid (RdK ok w 11 (zad d ok w) t.2 (.slice p4 i p6)):=hI
   have HI':Hid (RdK ok' w 11 (zad de ok' w) u.2 (.slice q4 i2 q6)):=hI'
   have HO:Hid (RdK ok w 10 (zba ok w) t.1.2.2.2.2 (.slice p1 m p3)):=hO
   have HO':Hid (RdK ok' w 10 (zba ok' w) u.1.2.2.2.2 (.slice q1 m2 q3)):=hO'
   have HE10:=zm he10
   clear hI hI' hO hO' he10
   go_cut [6,7] (fun u6 u7 wc=>∃ P Q,u6=.pointer (some ⟨P,0,none⟩)/\u7=.pointer (some ⟨Q,0,none⟩)/\wr.heap.size<=P/\wr.heap.size<=Q/\Bn wc P [.string sn,.int .i64 sl,.int .i64 sc,.bool sb,.bool se,.string sd,.string su,.int .i64 sw,.int .i64 sr,.slice p1 m p3,.slice p4 i p6]/\Bn wc Q [.string zn,.int .i64 zl,.int .i64 zc,.bool zb,.bool ze,.string zd,.string zu,.int .i64 zw,.int .i64 zr,.slice q1 m2 q3,.slice q4 i2 q6]/\Below wr.heap.size wr wc)
   case first=>
    clear HI HI' HO HO' HC HC' IH HI3 HRS HE10 hn3 hn4 hn7 hn8 hn9 he0 he1 he2 he3 he4 he5 he6 he7 he8 he9
    have hsw:=hb.size
    have n1:¬ b=wr.heap.size:=by omega
    have n2:¬ wr.heap.size=b:=by omega
    have n3:¬ b=wr.heap.size+1:=by omega
    have n4:¬ wr.heap.size+1=b:=by omega
    have n5:¬ b'=wr.heap.size:=by omega
    have n6:¬ wr.heap.size=b':=by omega
    have n7:¬ b'=wr.heap.size+1:=by omega
    have n8:¬ wr.heap.size+1=b':=by omega
    have n9:b < wr.heap.size:=by omega
    have n10:b' < wr.heap.size:=by omega
    go_region
    ·go_wp2
     go_meet
     case rel=>exact ⟨wr.heap.size,wr.heap.size+1,rfl,rfl,Nat.le_refl _,Nat.le_succ _,((Bn.new wr [.string sn,.int .i64 sl,.int .i64 sc,.bool sb,.bool se,.string sd,.string su,.int .i64 sw,.int .i64 sr,.slice p1 m p3,.slice p4 i p6] 76 _ rfl).on (zn3.alloc zn2 (.cells #[.string zn,.int .i64 zl,.int .i64 zc,.bool zb,.bool ze,.string zd,.string zu,.int .i64 zw,.int .i64 zr,.slice q1 m2 q3,.slice q4 i2 q6] 76))).drew,(Bn.new (wr.alloc (.cells #[.string sn,.int .i64 sl,.int .i64 sc,.bool sb,.bool se,.string sd,.string su,.int .i64 sw,.int .i64 sr,.slice p1 m p3,.slice p4 i p6] 76)) [.string zn,.int .i64 zl,.int .i64 zc,.bool zb,.bool ze,.string zd,.string zu,.int .i64 zw,.int .i64 zr,.slice q1 m2 q3,.slice q4 i2 q6] 76 _ (by simp)).drew,((zn3.alloc zn2 _).alloc (by simp) _).drew⟩
    ·go_wp2
     go_meet
     case rel=>exact ⟨wr.heap.size+1,wr.heap.size,rfl,rfl,Nat.le_succ _,Nat.le_refl _,(Bn.new (wr.alloc (.cells #[.string zn,.int .i64 zl,.int .i64 zc,.bool zb,.bool ze,.string zd,.string zu,.int .i64 zw,.int .i64 zr,.slice q1 m2 q3,.slice q4 i2 q6] 76)) [.string sn,.int .i64 sl,.int .i64 sc,.bool sb,.bool se,.string sd,.string su,.int .i64 sw,.int .i64 sr,.slice p1 m p3,.slice p4 i p6] 76 _ (by simp)).drew,((Bn.new wr [.string zn,.int .i64 zl,.int .i64 zc,.bool zb,.bool ze,.string zd,.string zu,.int .i64 zw,.int .i64 zr,.slice q1 m2 q3,.slice q4 i2 q6] 76 _ rfl).on (zn3.alloc zn2 (.cells #[.string sn,.int .i64 sl,.int .i64 sc,.bool sb,.bool se,.string sd,.string su,.int .i64 sw,.int .i64 sr,.slice p1 m p3,.slice p4 i p6] 76))).drew,((zn3.alloc zn2 _).alloc (by simp) _).drew⟩
   case rest=>
    obtain ⟨P,Q,rfl,rfl,hP,hQ,hX,hY,hbc⟩:=hcut
    have hb2:=hb.trans (hbc.mono hb.size)
    have hcall:=IH ok ok' wc t.2 u.2 _ _ (HI.out.stay (zy d) (fun b hb hl=>⟨hb,hb2.block b hl⟩)) (HI'.out.stay (zy de) (fun b hb hl=>⟨hb,hb2.block b hl⟩))
    rw [HE10.out] at hcall
    have HM:Hid (t.1.2.2.2.2.length=m):=hm
    have HM2:Hid (u.1.2.2.2.2.length=m2):=hm2
    have HMX:Hid (m<=9223372036854775807):=by
     obtain ⟨_,_,he,hq1,hq2⟩:=HO.out.form
     unfold maxLen at hq2
     show m<=9223372036854775807
     omega
    clear C0 D0 C1 D1 C2 D2 C3 D3 C4 D4 C5 D5 C6 D6 C7 D7 C8 D8 C9 D9 C10 D10 hb HC HC' HI HI' hm hm2 hi hi2 i1 i2'
    have c0:=(hX 0 _ rfl).1
    have d0:=(hY 0 _ rfl).1
    have c1:=(hX 1 _ rfl).1
    have d1:=(hY 1 _ rfl).1
    have c2:=(hX 2 _ rfl).1
    have d2:=(hY 2 _ rfl).1
    have c3:=(hX 3 _ rfl).1
    have d3:=(hY 3 _ rfl).1
    have c4:=(hX 4 _ rfl).1
    have d4:=(hY 4 _ rfl).1
    have c5:=(hX 5 _ rfl).1
    have d5:=(hY 5 _ rfl).1
    have c6:=(hX 6 _ rfl).1
    have d6:=(hY 6 _ rfl).1
    have c7:=(hX 7 _ rfl).1
    have d7:=(hY 7 _ rfl).1
    have c8:=(hX 8 _ rfl).1
    have d8:=(hY 8 _ rfl).1
    have c9:=(hX 9 _ rfl).1
    have d9:=(hY 9 _ rfl).1
    have c10:=(hX 10 _ rfl).1
    have d10:=(hY 10 _ rfl).1
    have HJ:Hid (j < n):=hlt
    cases e0 with
    | false=>
     have hF:V=false:=by rw [<- HI3.out];simp
     subst hF
     have hBw:Below wc.heap.size wc wc:=Below.refl _ _
     go_wp2_with (first
      | (go_at_call 19;refine hcall.mono ?_;rintro r w1 ⟨rfl,b1⟩;have hBw:=Below.nx hBw b1;obtain ⟨r9,_⟩:=(hX.on b1) 9 _ rfl;obtain ⟨s9,_⟩:=(hY.on b1) 9 _ rfl)
      | fail)
     go_ret
     exact ⟨rfl,hb2.trans (hBw.mono hb2.size)⟩
    | true=>
    cases e1 with
    | false=>
     have hF:V=false:=by rw [<- HI3.out];simp
     subst hF
     have hBw:Below wc.heap.size wc wc:=Below.refl _ _
     go_wp2_with (first
      | (go_at_call 19;refine hcall.mono ?_;rintro r w1 ⟨rfl,b1⟩;have hBw:=Below.nx hBw b1;obtain ⟨r9,_⟩:=(hX.on b1) 9 _ rfl;obtain ⟨s9,_⟩:=(hY.on b1) 9 _ rfl)
      | fail)
     go_ret
     exact ⟨rfl,hb2.trans (hBw.mono hb2.size)⟩
    | true=>
    cases e2 with
    | false=>
     have hF:V=false:=by rw [<- HI3.out];simp
     subst hF
     have hBw:Below wc.heap.size wc wc:=Below.refl _ _
     go_wp2_with (first
      | (go_at_call 19;refine hcall.mono ?_;rintro r w1 ⟨rfl,b1⟩;have hBw:=Below.nx hBw b1;obtain ⟨r9,_⟩:=(hX.on b1) 9 _ rfl;obtain ⟨s9,_⟩:=(hY.on b1) 9 _ rfl)
      | fail)
     go_ret
     exact ⟨rfl,hb2.trans (hBw.mono hb2.size)⟩
    | true=>
    cases e3 with
    | false=>
     have hF:V=false:=by rw [<- HI3.out];simp
     subst hF
     have hBw:Below wc.heap.size wc wc:=Below.refl _ _
     go_wp2_with (first
      | (go_at_call 19;refine hcall.mono ?_;rintro r w1 ⟨rfl,b1⟩;have hBw:=Below.nx hBw b1;obtain ⟨r9,_⟩:=(hX.on b1) 9 _ rfl;obtain ⟨s9,_⟩:=(hY.on b1) 9 _ rfl)
      | fail)
     go_ret
     exact ⟨rfl,hb2.trans (hBw.mono hb2.size)⟩
    | true=>
    cases e4 with
    | false=>
     have hF:V=false:=by rw [<- HI3.out];simp
     subst hF
     have hBw:Below wc.heap.size wc wc:=Below.refl _ _
     go_wp2_with (first
      | (go_at_call 19;refine hcall.mono ?_;rintro r w1 ⟨rfl,b1⟩;have hBw:=Below.nx hBw b1;obtain ⟨r9,_⟩:=(hX.on b1) 9 _ rfl;obtain ⟨s9,_⟩:=(hY.on b1) 9 _ rfl)
      | fail)
     go_ret
     exact ⟨rfl,hb2.trans (hBw.mono hb2.size)⟩
    | true=>
    cases e5 with
    | false=>
     have hF:V=false:=by rw [<- HI3.out];simp
     subst hF
     have hBw:Below wc.heap.size wc wc:=Below.refl _ _
     go_wp2_with (first
      | (go_at_call 19;refine hcall.mono ?_;rintro r w1 ⟨rfl,b1⟩;have hBw:=Below.nx hBw b1;obtain ⟨r9,_⟩:=(hX.on b1) 9 _ rfl;obtain ⟨s9,_⟩:=(hY.on b1) 9 _ rfl)
      | fail)
     go_ret
     exact ⟨rfl,hb2.trans (hBw.mono hb2.size)⟩
    | true=>
    cases e6 with
    | false=>
     have hF:V=false:=by rw [<- HI3.out];simp
     subst hF
     have hBw:Below wc.heap.size wc wc:=Below.refl _ _
     go_wp2_with (first
      | (go_at_call 19;refine hcall.mono ?_;rintro r w1 ⟨rfl,b1⟩;have hBw:=Below.nx hBw b1;obtain ⟨r9,_⟩:=(hX.on b1) 9 _ rfl;obtain ⟨s9,_⟩:=(hY.on b1) 9 _ rfl)
      | fail)
     go_ret
     exact ⟨rfl,hb2.trans (hBw.mono hb2.size)⟩
    | true=>
    cases e7 with
    | false=>
     have hF:V=false:=by rw [<- HI3.out];simp
     subst hF
     have hBw:Below wc.heap.size wc wc:=Below.refl _ _
     go_wp2_with (first
      | (go_at_call 19;refine hcall.mono ?_;rintro r w1 ⟨rfl,b1⟩;have hBw:=Below.nx hBw b1;obtain ⟨r9,_⟩:=(hX.on b1) 9 _ rfl;obtain ⟨s9,_⟩:=(hY.on b1) 9 _ rfl)
      | fail)
     go_ret
     exact ⟨rfl,hb2.trans (hBw.mono hb2.size)⟩
    | true=>
    cases e8 with
    | false=>
     have hF:V=false:=by rw [<- HI3.out];simp
     subst hF
     have hBw:Below wc.heap.size wc wc:=Below.refl _ _
     go_wp2_with (first
      | (go_at_call 19;refine hcall.mono ?_;rintro r w1 ⟨rfl,b1⟩;have hBw:=Below.nx hBw b1;obtain ⟨r9,_⟩:=(hX.on b1) 9 _ rfl;obtain ⟨s9,_⟩:=(hY.on b1) 9 _ rfl)
      | fail)
     go_ret
     exact ⟨rfl,hb2.trans (hBw.mono hb2.size)⟩
    | true=>
    cases e9 with
    | false=>
     have hF:V=false:=by rw [<- HI3.out];simp
     subst hF
     have hBw:Below wc.heap.size wc wc:=Below.refl _ _
     go_wp2_with (first
      | (go_at_call 19;refine hcall.mono ?_;rintro r w1 ⟨rfl,b1⟩;have hBw:=Below.nx hBw b1;obtain ⟨r9,_⟩:=(hX.on b1) 9 _ rfl;obtain ⟨s9,_⟩:=(hY.on b1) 9 _ rfl)
      | fail)
     go_ret
     exact ⟨rfl,hb2.trans (hBw.mono hb2.size)⟩
    | true=>
    cases e10 with
    | false=>
     have hF:V=false:=by rw [<- HI3.out];simp
     subst hF
     have hBw:Below wc.heap.size wc wc:=Below.refl _ _
     go_wp2_with (first
      | (go_at_call 19;refine hcall.mono ?_;rintro r w1 ⟨rfl,b1⟩;have hBw:=Below.nx hBw b1;obtain ⟨r9,_⟩:=(hX.on b1) 9 _ rfl;obtain ⟨s9,_⟩:=(hY.on b1) 9 _ rfl)
      | fail)
     go_ret
     exact ⟨rfl,hb2.trans (hBw.mono hb2.size)⟩
    | true=>
    have HT0:Hid ((eqL dqO (t.1.2.2.2.2.drop 0) (u.1.2.2.2.2.drop 0) && RS)=V):=by show _=_;have:=HI3.out;simpa using this
    have hmm:m2=m:=by have:=he9;rw [beq_iff_eq] at this;omega
    subst hmm
    have hBw:Below wc.heap.size wc wc:=Below.refl _ _
    go_wp2_with (first
     | (go_at_call 19;refine hcall.mono ?_;rintro r w1 ⟨rfl,b1⟩;have hBw:=Below.nx hBw b1;obtain ⟨r9,_⟩:=(hX.on b1) 9 _ rfl;obtain ⟨s9,_⟩:=(hY.on b1) 9 _ rfl)
     | fail)
    have hX1:=hX.on b1
    have hY1:=hY.on b1
    have hb3:=hb2.trans (b1.mono hb2.size)
    clear hcall c0 d0 c1 d1 c2 d2 c3 d3 c4 d4 c5 d5 c6 d6 c7 d7 c8 d8 c9 d9 c10 d10 r9 s9 hX hY hb2 b1 hbc hBw HI3 HE10 he0 he1 he2 he3 he4 he5 he6 he7 he8 he9 hn3 hn4 hn7 hn8 hn9
    go_loopw [101] (fun ix wr=>∃ (g:Nat),g<=m2/\ix=.int .i64 (g:Int)/\Hid ((eqL dqO (t.1.2.2.2.2.drop g) (u.1.2.2.2.2.drop g) && RS)=V)/\Bn wr P [.string sn,.int .i64 sl,.int .i64 sc,.bool sb,.bool se,.string sd,.string su,.int .i64 sw,.int .i64 sr,.slice p1 m2 p3,.slice p4 i p6]/\Bn wr Q [.string zn,.int .i64 zl,.int .i64 zc,.bool zb,.bool ze,.string zd,.string zu,.int .i64 zw,.int .i64 zr,.slice q1 m2 q3,.slice q4 i2 q6]/\Below w.heap.size w wr) (fun ix _=>m2 - (RowKit.intOf ix).toNat)
    case atStart=>exact ⟨0,Nat.zero_le _,rfl,HT0,hX1,hY1,hb3⟩
    case round=>
     clear hX1 hY1 hb3 HT0
     obtain ⟨g,hg,rfl,HT,hX,hY,hb⟩:=hrel
     have y9:=(hX 9 _ rfl).1
     have z9:=(hY 9 _ rfl).1
     by_cases hgl:g < m2
     ·have hgt:g < t.1.2.2.2.2.length:=by rw [HM.out];exact hgl
      have hgt':g < u.1.2.2.2.2.length:=by rw [HM2.out];exact hgl
      obtain ⟨bo,oo,e0,e1,e2,e3,e4,e5,e6,e7,e8,e9,rfl,hbl1,hon,hc⟩:=ze4 HO.out g hgt
      obtain ⟨bo',oo',f0,f1,f2,f3,f4,f5,f6,f7,f8,f9,rfl,hbl2,hon',hc'⟩:=ze4 HO'.out g hgt'
      have C0:=(hb.cell (p:=⟨bo,oo+g*10+0,none⟩) hbl1).trans (hc 0 _ rfl)
      have D0:=(hb.cell (p:=⟨bo',oo'+g*10+0,none⟩) hbl2).trans (hc' 0 _ rfl)
      have C1:=(hb.cell (p:=⟨bo,oo+g*10+1,none⟩) hbl1).trans (hc 1 _ rfl)
      have D1:=(hb.cell (p:=⟨bo',oo'+g*10+1,none⟩) hbl2).trans (hc' 1 _ rfl)
      have C2:=(hb.cell (p:=⟨bo,oo+g*10+2,none⟩) hbl1).trans (hc 2 _ rfl)
      have D2:=(hb.cell (p:=⟨bo',oo'+g*10+2,none⟩) hbl2).trans (hc' 2 _ rfl)
      have C3:=(hb.cell (p:=⟨bo,oo+g*10+3,none⟩) hbl1).trans (hc 3 _ rfl)
      have D3:=(hb.cell (p:=⟨bo',oo'+g*10+3,none⟩) hbl2).trans (hc' 3 _ rfl)
      have C4:=(hb.cell (p:=⟨bo,oo+g*10+4,none⟩) hbl1).trans (hc 4 _ rfl)
      have D4:=(hb.cell (p:=⟨bo',oo'+g*10+4,none⟩) hbl2).trans (hc' 4 _ rfl)
      have C5:=(hb.cell (p:=⟨bo,oo+g*10+5,none⟩) hbl1).trans (hc 5 _ rfl)
      have D5:=(hb.cell (p:=⟨bo',oo'+g*10+5,none⟩) hbl2).trans (hc' 5 _ rfl)
      have C6:=(hb.cell (p:=⟨bo,oo+g*10+6,none⟩) hbl1).trans (hc 6 _ rfl)
      have D6:=(hb.cell (p:=⟨bo',oo'+g*10+6,none⟩) hbl2).trans (hc' 6 _ rfl)
      have C7:=(hb.cell (p:=⟨bo,oo+g*10+7,none⟩) hbl1).trans (hc 7 _ rfl)
      have D7:=(hb.cell (p:=⟨bo',oo'+g*10+7,none⟩) hbl2).trans (hc' 7 _ rfl)
      have C8:=(hb.cell (p:=⟨bo,oo+g*10+8,none⟩) hbl1).trans (hc 8 _ rfl)
      have D8:=(hb.cell (p:=⟨bo',oo'+g*10+8,none⟩) hbl2).trans (hc' 8 _ rfl)
      have C9:=(hb.cell (p:=⟨bo,oo+g*10+9,none⟩) hbl1).trans (hc 9 _ rfl)
      have D9:=(hb.cell (p:=⟨bo',oo'+g*10+9,none⟩) hbl2).trans (hc' 9 _ rfl)
      rw [Nat.add_zero] at C0 D0
      have hcall:=zjD (zap hon (fun b hb' hl=>⟨hb',hb.drew.block b hl⟩)) (zap hon' (fun b hb' hl=>⟨hb',hb.drew.block b hl⟩))
      obtain ⟨G,hG⟩:∃ e,dqO t.1.2.2.2.2[g] u.1.2.2.2.2[g]=e:=⟨_,rfl⟩
      rw [hG] at hcall
      have HG:Hid ((G && (eqL dqO (t.1.2.2.2.2.drop (g+1)) (u.1.2.2.2.2.drop (g+1)) && RS))=V):=by
       show _=_
       rw [<- hG,<- Bool.and_assoc,<- zcB dqO hgt hgt'];exact HT.out
      have i1:(g:Int) < (m2:Int):=by omega
      have i2:(0:Int)<=(g:Int):=by omega
      have hmx:=HMX.out
      clear hc hc' hon hon' hbl1 hbl2 hgt hgt' HO HO' HM HM2 hG HT
      cases G with
      | false=>
       have hF:V=false:=by rw [<- HG.out];simp
       subst hF
       go_wp2
       go_region_held (fun w'=>w'.cell? ⟨P,9,none⟩=some (.slice (some ⟨bo,oo,none⟩) m2 p3)/\w'.cell? ⟨Q,9,none⟩=some (.slice (some ⟨bo',oo',none⟩) m2 q3)/\w'.cell? ⟨bo,oo+g*10,none⟩=some e0/\w'.cell? ⟨bo,oo+g*10+1,none⟩=some e1/\w'.cell? ⟨bo,oo+g*10+2,none⟩=some e2/\w'.cell? ⟨bo,oo+g*10+3,none⟩=some e3/\w'.cell? ⟨bo,oo+g*10+4,none⟩=some e4/\w'.cell? ⟨bo,oo+g*10+5,none⟩=some e5/\w'.cell? ⟨bo,oo+g*10+6,none⟩=some e6/\w'.cell? ⟨bo,oo+g*10+7,none⟩=some e7/\w'.cell? ⟨bo,oo+g*10+8,none⟩=some e8/\w'.cell? ⟨bo,oo+g*10+9,none⟩=some e9/\w'.cell? ⟨bo',oo'+g*10,none⟩=some f0/\w'.cell? ⟨bo',oo'+g*10+1,none⟩=some f1/\w'.cell? ⟨bo',oo'+g*10+2,none⟩=some f2/\w'.cell? ⟨bo',oo'+g*10+3,none⟩=some f3/\w'.cell? ⟨bo',oo'+g*10+4,none⟩=some f4/\w'.cell? ⟨bo',oo'+g*10+5,none⟩=some f5/\w'.cell? ⟨bo',oo'+g*10+6,none⟩=some f6/\w'.cell? ⟨bo',oo'+g*10+7,none⟩=some f7/\w'.cell? ⟨bo',oo'+g*10+8,none⟩=some f8/\w'.cell? ⟨bo',oo'+g*10+9,none⟩=some f9)
        (first|exact ⟨y9,z9,C0,C1,C2,C3,C4,C5,C6,C7,C8,C9,D0,D1,D2,D3,D4,D5,D6,D7,D8,D9⟩|exact ⟨kc _ _ y9,kc _ _ z9,kc _ _ C0,kc _ _ C1,kc _ _ C2,kc _ _ C3,kc _ _ C4,kc _ _ C5,kc _ _ C6,kc _ _ C7,kc _ _ C8,kc _ _ C9,kc _ _ D0,kc _ _ D1,kc _ _ D2,kc _ _ D3,kc _ _ D4,kc _ _ D5,kc _ _ D6,kc _ _ D7,kc _ _ D8,kc _ _ D9⟩|go_keep)
        (first|(go_at_call 36;refine hcall.mono ?_;rintro r w1 ⟨rfl,b1⟩;have bw:Below wr.heap.size wr w1:=((Below.refl _ wr).drew).trans b1;have kc:∀ p u,wr.cell? p=some u->w1.cell? p=some u:=fun p u hp=>(by rw [bw.cell (World.block_lt_of_cell? wr _ hp)];exact hp)))
       go_wp2
       go_ret
       exact ⟨rfl,hb.trans (bw.mono hb.size)⟩
      | true=>
       have HG2:Hid ((eqL dqO (t.1.2.2.2.2.drop (g+1)) (u.1.2.2.2.2.drop (g+1)) && RS)=V):=by show _=_;have:=HG.out;simpa using this
       go_wp2
       go_region_held (fun w'=>w'.cell? ⟨P,9,none⟩=some (.slice (some ⟨bo,oo,none⟩) m2 p3)/\w'.cell? ⟨Q,9,none⟩=some (.slice (some ⟨bo',oo',none⟩) m2 q3)/\w'.cell? ⟨bo,oo+g*10,none⟩=some e0/\w'.cell? ⟨bo,oo+g*10+1,none⟩=some e1/\w'.cell? ⟨bo,oo+g*10+2,none⟩=some e2/\w'.cell? ⟨bo,oo+g*10+3,none⟩=some e3/\w'.cell? ⟨bo,oo+g*10+4,none⟩=some e4/\w'.cell? ⟨bo,oo+g*10+5,none⟩=some e5/\w'.cell? ⟨bo,oo+g*10+6,none⟩=some e6/\w'.cell? ⟨bo,oo+g*10+7,none⟩=some e7/\w'.cell? ⟨bo,oo+g*10+8,none⟩=some e8/\w'.cell? ⟨bo,oo+g*10+9,none⟩=some e9/\w'.cell? ⟨bo',oo'+g*10,none⟩=some f0/\w'.cell? ⟨bo',oo'+g*10+1,none⟩=some f1/\w'.cell? ⟨bo',oo'+g*10+2,none⟩=some f2/\w'.cell? ⟨bo',oo'+g*10+3,none⟩=some f3/\w'.cell? ⟨bo',oo'+g*10+4,none⟩=some f4/\w'.cell? ⟨bo',oo'+g*10+5,none⟩=some f5/\w'.cell? ⟨bo',oo'+g*10+6,none⟩=some f6/\w'.cell? ⟨bo',oo'+g*10+7,none⟩=some f7/\w'.cell? ⟨bo',oo'+g*10+8,none⟩=some f8/\w'.cell? ⟨bo',oo'+g*10+9,none⟩=some f9)
        (first|exact ⟨y9,z9,C0,C1,C2,C3,C4,C5,C6,C7,C8,C9,D0,D1,D2,D3,D4,D5,D6,D7,D8,D9⟩|exact ⟨kc _ _ y9,kc _ _ z9,kc _ _ C0,kc _ _ C1,kc _ _ C2,kc _ _ C3,kc _ _ C4,kc _ _ C5,kc _ _ C6,kc _ _ C7,kc _ _ C8,kc _ _ C9,kc _ _ D0,kc _ _ D1,kc _ _ D2,kc _ _ D3,kc _ _ D4,kc _ _ D5,kc _ _ D6,kc _ _ D7,kc _ _ D8,kc _ _ D9⟩|go_keep)
        (first|(go_at_call 36;refine hcall.mono ?_;rintro r w1 ⟨rfl,b1⟩;have bw:Below wr.heap.size wr w1:=((Below.refl _ wr).drew).trans b1;have kc:∀ p u,wr.cell? p=some u->w1.cell? p=some u:=fun p u hp=>(by rw [bw.cell (World.block_lt_of_cell? wr _ hp)];exact hp)))
       go_wp2
       go_roundw
       case rel=>exact ⟨g+1,hgl,by go_num,HG2,hX.on bw,hY.on bw,hb.trans (bw.mono hb.size)⟩
       case measure=>simp [RowKit.intOf];omega
     ·have i1:¬ (g:Int) < (m2:Int):=by omega
      have HR2:Hid (RS=V):=by
       show _=_
       rw [<- HT.out,zbO dqO (by rw [HM.out];omega) (by rw [HM2.out];omega),Bool.true_and]
      go_wp2
      go_roundw
      case rel=>exact ⟨j+1,HJ.out,by go_num,HRS.out.trans HR2.out,hb⟩
      case measure=>simp [RowKit.intOf];omega
  ·have i1:¬ (j:Int) < (n:Int):=by omega
   have hV:V=true:=by rw [<- HE.out];exact zbO _ (by rw [HN.out];omega) (by rw [HN2.out];omega)
   subst hV
   go_wp2
   go_ret
   exact ⟨rfl,hb⟩
theorem zkR:∀ (d de:Nat),SsG d de
 | 0,_=>zkS (Or.inl rfl)
 | _+1,0=>zkS (Or.inr rfl)
 | d+1,de+1=>zl5 d de (zkR d de)
def dqC (d e:Nat) (c:ChD d) (c':ChD e):Bool:=decide (c.1.1=c'.1.1) && (decide (c.2.1=c'.2.1) && (decide (c.1.2=c'.1.2) && (eqL (dqT d e) c.2.2.2 c'.2.2.2 && eqL sqV c.2.2.1 c'.2.2.1)))
theorem ze1 (v:List UInt8 × Int × Pl):∃ sn sv sl sc,zll v=[.string sn,.int .i64 sv,.int .i64 sl,.int .i64 sc]/\bl sn=v.1/\v.2.1=sv/\v.2.2=(sl,sc):=⟨_,_,_,_,rfl,by unfold bl;simp,rfl,rfl⟩
theorem zlV (v v':List UInt8 × Int × Pl):sqV v v'=(decide (v.1=v'.1) && (decide (v.2.1=v'.2.1) && decide (v.2.2=v'.2.2))):=by
 obtain ⟨a,b,c⟩:=v
 obtain ⟨a',b',c'⟩:=v'
 unfold sqV
 rw [Bool.eq_iff_iff]
 simp [Prod.mk.injEq]
theorem zeb {ok ok':Nat->Prop}{w:World}{d de:Nat}{c:ChD d}{c':ChD de}{v v':Value}(h:RdD ok w d c v) (h':RdD ok' w de c' v') :
  Calls Tryz.prog 8 #[v,v'] w fun e w'=>e=.returned (.bool (dqC d de c c'))/\Below w.heap.size w w':=by
 obtain ⟨sv,ss,rfl,hv,hs⟩:=h
 obtain ⟨sv',ss',rfl,hv',hs'⟩:=h'
 obtain ⟨a,cap,rfl,hlc,hcm⟩:=hv.form
 obtain ⟨a',cap',rfl,hlc',hcm'⟩:=hv'.form
 obtain ⟨p4,p6,rfl,_⟩:=hs.form
 obtain ⟨q4,q6,rfl,_⟩:=hs'.form
 unfold maxLen at hcm hcm'
 have HV:Hid (RdK ok w 4 (zb0 ok w) c.2.2.1 (.slice a c.2.2.1.length cap)):=hv
 have HV':Hid (RdK ok' w 4 (zb0 ok' w) c'.2.2.1 (.slice a' c'.2.2.1.length cap')):=hv'
 have hst:=fun w1 (b:Below w.heap.size w w1)=>zkR d de ok ok' w1 c.2.2.2 c'.2.2.2 _ _ (hs.stay (zy d) (fun k hk hl=>⟨hk,b.block k hl⟩)) (hs'.stay (zy de) (fun k hk hl=>⟨hk,b.block k hl⟩))
 obtain ⟨nv,hnv,eb0⟩:=zbP c.1.1
 obtain ⟨nv2,hnv2,eb1⟩:=zbP c'.1.1
 obtain ⟨n,hn⟩:∃ n,c.2.2.1.length=n:=⟨_,rfl⟩
 obtain ⟨i,hi⟩:∃ n,c.2.2.2.length=n:=⟨_,rfl⟩
 obtain ⟨n2,hn2⟩:∃ n,c'.2.2.1.length=n:=⟨_,rfl⟩
 obtain ⟨i2,hi2⟩:∃ n,c'.2.2.2.length=n:=⟨_,rfl⟩
 obtain ⟨vn,hvn⟩:∃ x,c.2.1=x:=⟨_,rfl⟩
 obtain ⟨ln,hln⟩:∃ x,c.1.2.1=x:=⟨_,rfl⟩
 obtain ⟨co,hco⟩:∃ x,c.1.2.2=x:=⟨_,rfl⟩
 obtain ⟨vn2,hvn2⟩:∃ x,c'.2.1=x:=⟨_,rfl⟩
 obtain ⟨ln2,hln2⟩:∃ x,c'.1.2.1=x:=⟨_,rfl⟩
 obtain ⟨co2,hco2⟩:∃ x,c'.1.2.2=x:=⟨_,rfl⟩
 obtain ⟨V,hV⟩:∃ V,dqC d de c c'=V:=⟨_,rfl⟩
 rw [hV]
 obtain ⟨e0,he0⟩:∃ e,(nv.toList == nv2.toList)=e:=⟨_,rfl⟩
 obtain ⟨e1,he1⟩:∃ e,(vn == vn2)=e:=⟨_,rfl⟩
 obtain ⟨e2,he2⟩:∃ e,(ln == ln2)=e:=⟨_,rfl⟩
 obtain ⟨e3,he3⟩:∃ e,(co == co2)=e:=⟨_,rfl⟩
 obtain ⟨e4,he4⟩:∃ e,((n:Int) == (n2:Int))=e:=⟨_,rfl⟩
 obtain ⟨e5,he5⟩:∃ e,eqL (dqT d de) c.2.2.2 c'.2.2.2=e:=⟨_,rfl⟩
 have HV0:Hid ((e0 && (e1 && ((e2 && e3) && (e5 && (e4 && eqL sqV c.2.2.1 c'.2.2.1)))))=V):=by
  show _=_
  rw [<- hV]
  unfold dqC
  rw [zfM sqV c.2.2.1 c'.2.2.1,zhx c.2.2.1.length c'.2.2.1.length,hn,hn2,zer c.1.2 c'.1.2,<- zen c.2.1,<- eb0,<- eb1,<- zaK,hvn,hvn2,hln,hln2,hco,hco2,he0,he1,he2,he3,he4,he5]
  cases e4<;>simp
 simp only [he5] at hst
 rw [hnv,hnv2]
 rw [hn] at hlc ⊢
 rw [hn2] at hlc' ⊢
 rw [hi,hi2] at hst ⊢
 have HN:Hid (c.2.2.1.length=n):=hn
 have HN2:Hid (c'.2.2.1.length=n2):=hn2
 rw [hvn,hln,hco,hvn2,hln2,hco2]
 have hn1:(vn != vn2) = !e1:=by rw [<- he1];rfl
 have hn4:((n:Int) != (n2:Int)) = !e4:=by rw [<- he4];rfl
 clear hv hv' hs hs' hnv hn hi hvn hln hco hnv2 hn2 hi2 hvn2 hln2 hco2 eb0 eb1 hV he5
 have hb0:=((Below.refl w.heap.size w).alloc zn2 (.cells #[.string nv,.int .i64 vn,.int .i64 ln,.int .i64 co,.slice a n cap,.slice p4 i p6] 27)).alloc (by simp) (.cells #[.string nv2,.int .i64 vn2,.int .i64 ln2,.int .i64 co2,.slice a' n2 cap',.slice q4 i2 q6] 27)
 have hA0:Bn ((w.alloc (.cells #[.string nv,.int .i64 vn,.int .i64 ln,.int .i64 co,.slice a n cap,.slice p4 i p6] 27)).alloc (.cells #[.string nv2,.int .i64 vn2,.int .i64 ln2,.int .i64 co2,.slice a' n2 cap',.slice q4 i2 q6] 27)) w.heap.size [.string nv,.int .i64 vn,.int .i64 ln,.int .i64 co,.slice a n cap,.slice p4 i p6]:=(Bn.new w [.string nv,.int .i64 vn,.int .i64 ln,.int .i64 co,.slice a n cap,.slice p4 i p6] 27 _ rfl).on (zn3.alloc zn2 _)
 have hB0:Bn ((w.alloc (.cells #[.string nv,.int .i64 vn,.int .i64 ln,.int .i64 co,.slice a n cap,.slice p4 i p6] 27)).alloc (.cells #[.string nv2,.int .i64 vn2,.int .i64 ln2,.int .i64 co2,.slice a' n2 cap',.slice q4 i2 q6] 27)) (w.heap.size+1) [.string nv2,.int .i64 vn2,.int .i64 ln2,.int .i64 co2,.slice a' n2 cap',.slice q4 i2 q6]:=Bn.new (w.alloc (.cells #[.string nv,.int .i64 vn,.int .i64 ln,.int .i64 co,.slice a n cap,.slice p4 i p6] 27)) [.string nv2,.int .i64 vn2,.int .i64 ln2,.int .i64 co2,.slice a' n2 cap',.slice q4 i2 q6] 27 _ (by simp)
 have hcall:=hst _ hb0
 clear hst
 go_enter Tryz.func8,Tryz.ntmps8
 go_upto_region 1 with fail
 generalize ((w.alloc (.cells #[.string nv,.int .i64 vn,.int .i64 ln,.int .i64 co,.slice a n cap,.slice p4 i p6] 27)).alloc (.cells #[.string nv2,.int .i64 vn2,.int .i64 ln2,.int .i64 co2,.slice a' n2 cap',.slice q4 i2 q6] 27))=w0 at *
 have p0:=(hA0 0 _ rfl).1
 have q0:=(hB0 0 _ rfl).1
 have p1:=(hA0 1 _ rfl).1
 have q1:=(hB0 1 _ rfl).1
 have p2:=(hA0 2 _ rfl).1
 have q2:=(hB0 2 _ rfl).1
 have p3:=(hA0 3 _ rfl).1
 have q3:=(hB0 3 _ rfl).1
 have pp4:=(hA0 4 _ rfl).1
 have qq4:=(hB0 4 _ rfl).1
 have p5:=(hA0 5 _ rfl).1
 have q5:=(hB0 5 _ rfl).1
 cases e0 with
 | false=>
  have hF:V=false:=by rw [<- HV0.out];simp
  subst hF
  have hBw:Below w0.heap.size w0 w0:=Below.refl _ _
  go_wp2_with (first
   | (go_at_call 19;refine hcall.mono ?_;rintro r w1 ⟨rfl,b1⟩;have hBw:=Below.nx hBw b1;obtain ⟨r4,_⟩:=(hA0.on b1) 4 _ rfl;obtain ⟨s4,_⟩:=(hB0.on b1) 4 _ rfl)
   | fail)
  go_ret
  exact ⟨rfl,hb0.trans (hBw.mono hb0.size)⟩
 | true=>
 cases e1 with
 | false=>
  have hF:V=false:=by rw [<- HV0.out];simp
  subst hF
  have hBw:Below w0.heap.size w0 w0:=Below.refl _ _
  go_wp2_with (first
   | (go_at_call 19;refine hcall.mono ?_;rintro r w1 ⟨rfl,b1⟩;have hBw:=Below.nx hBw b1;obtain ⟨r4,_⟩:=(hA0.on b1) 4 _ rfl;obtain ⟨s4,_⟩:=(hB0.on b1) 4 _ rfl)
   | fail)
  go_ret
  exact ⟨rfl,hb0.trans (hBw.mono hb0.size)⟩
 | true=>
 cases e2 with
 | false=>
  have hF:V=false:=by rw [<- HV0.out];simp
  subst hF
  have hBw:Below w0.heap.size w0 w0:=Below.refl _ _
  go_wp2_with (first
   | (go_at_call 19;refine hcall.mono ?_;rintro r w1 ⟨rfl,b1⟩;have hBw:=Below.nx hBw b1;obtain ⟨r4,_⟩:=(hA0.on b1) 4 _ rfl;obtain ⟨s4,_⟩:=(hB0.on b1) 4 _ rfl)
   | fail)
  go_ret
  exact ⟨rfl,hb0.trans (hBw.mono hb0.size)⟩
 | true=>
 cases e3 with
 | false=>
  have hF:V=false:=by rw [<- HV0.out];simp
  subst hF
  have hBw:Below w0.heap.size w0 w0:=Below.refl _ _
  go_wp2_with (first
   | (go_at_call 19;refine hcall.mono ?_;rintro r w1 ⟨rfl,b1⟩;have hBw:=Below.nx hBw b1;obtain ⟨r4,_⟩:=(hA0.on b1) 4 _ rfl;obtain ⟨s4,_⟩:=(hB0.on b1) 4 _ rfl)
   | fail)
  go_ret
  exact ⟨rfl,hb0.trans (hBw.mono hb0.size)⟩
 | true=>
 cases e4 with
 | false=>
  have hF:V=false:=by rw [<- HV0.out];simp
  subst hF
  have hBw:Below w0.heap.size w0 w0:=Below.refl _ _
  go_wp2_with (first
   | (go_at_call 19;refine hcall.mono ?_;rintro r w1 ⟨rfl,b1⟩;have hBw:=Below.nx hBw b1;obtain ⟨r4,_⟩:=(hA0.on b1) 4 _ rfl;obtain ⟨s4,_⟩:=(hB0.on b1) 4 _ rfl)
   | fail)
  go_ret
  exact ⟨rfl,hb0.trans (hBw.mono hb0.size)⟩
 | true=>
 cases e5 with
 | false=>
  have hF:V=false:=by rw [<- HV0.out];simp
  subst hF
  have hBw:Below w0.heap.size w0 w0:=Below.refl _ _
  go_wp2_with (first
   | (go_at_call 19;refine hcall.mono ?_;rintro r w1 ⟨rfl,b1⟩;have hBw:=Below.nx hBw b1;obtain ⟨r4,_⟩:=(hA0.on b1) 4 _ rfl;obtain ⟨s4,_⟩:=(hB0.on b1) 4 _ rfl)
   | fail)
  go_ret
  exact ⟨rfl,hb0.trans (hBw.mono hb0.size)⟩
 | true=>
 have HVT:Hid (eqL sqV (c.2.2.1.drop 0) (c'.2.2.1.drop 0)=V):=by show _=_;have:=HV0.out;simpa using this
 have hnn:n2=n:=by have:=he4;rw [beq_iff_eq] at this;omega
 subst hnn
 have hBw:Below w0.heap.size w0 w0:=Below.refl _ _
 go_wp2_with (first
  | (go_at_call 19;refine hcall.mono ?_;rintro r w1 ⟨rfl,b1⟩;have hBw:=Below.nx hBw b1;obtain ⟨r4,_⟩:=(hA0.on b1) 4 _ rfl;obtain ⟨s4,_⟩:=(hB0.on b1) 4 _ rfl)
  | fail)
 have hA1:=hA0.on b1
 have hB1:=hB0.on b1
 have hb1:=hb0.trans (b1.mono hb0.size)
 clear hcall p0 q0 p1 q1 p2 q2 p3 q3 pp4 qq4 p5 q5 r4 s4 hA0 hB0 hb0 b1 hBw HV0 he0 he1 he2 he3 he4 hn1 hn4
 go_loopw [45] (fun ix wr=>∃ (j:Nat),j<=n2/\ix=.int .i64 (j:Int)/\Hid (eqL sqV (c.2.2.1.drop j) (c'.2.2.1.drop j)=V)/\Bn wr w.heap.size [.string nv,.int .i64 vn,.int .i64 ln,.int .i64 co,.slice a n2 cap,.slice p4 i p6]/\Bn wr (w.heap.size+1) [.string nv2,.int .i64 vn2,.int .i64 ln2,.int .i64 co2,.slice a' n2 cap',.slice q4 i2 q6]/\Below w.heap.size w wr) (fun ix _=>n2 - (RowKit.intOf ix).toNat)
 case atStart=>exact ⟨0,Nat.zero_le _,rfl,HVT,hA1,hB1,hb1⟩
 case round=>
  clear hA1 hB1 hb1 HVT
  obtain ⟨j,hj,rfl,HI,hA,hB,hb⟩:=hrel
  have y4:=(hA 4 _ rfl).1
  have z4:=(hB 4 _ rfl).1
  by_cases hlt:j < n2
  ·have hjl:j < c.2.2.1.length:=by rw [HN.out];exact hlt
   have hjl':j < c'.2.2.1.length:=by rw [HN2.out];exact hlt
   have hI:=HI.out
   rw [zcB sqV hjl hjl',zlV] at hI
   obtain ⟨b,off,rfl,hbl,hc⟩:=zeH HV.out j hjl
   obtain ⟨b',off',rfl,hbl',hc'⟩:=zeH HV'.out j hjl'
   obtain ⟨sn,sv,sl,sc,hsv,es0,es1,es2⟩:=ze1 c.2.2.1[j]
   obtain ⟨zn,zv,zl,zc,hzv,ez0,ez1,ez2⟩:=ze1 c'.2.2.1[j]
   rw [hsv] at hc
   rw [hzv] at hc'
   obtain ⟨g0,hg0⟩:∃ e,(sn.toList == zn.toList)=e:=⟨_,rfl⟩
   obtain ⟨g1,hg1⟩:∃ e,(sv == zv)=e:=⟨_,rfl⟩
   obtain ⟨g2,hg2⟩:∃ e,(sl == zl)=e:=⟨_,rfl⟩
   obtain ⟨g3,hg3⟩:∃ e,(sc == zc)=e:=⟨_,rfl⟩
   have HI3:Hid (((g0 && (g1 && (g2 && g3))) && eqL sqV (c.2.2.1.drop (j+1)) (c'.2.2.1.drop (j+1)))=V):=by
    show _=_
    rw [<- hI,zer,es2,ez2,es1,ez1,<- es0,<- ez0,<- zen,<- zaK,hg0,hg1,hg2,hg3]
   have C0:=(hb.cell (p:=⟨b,off+j*4+0,none⟩) hbl).trans (hc 0 _ rfl)
   have D0:=(hb.cell (p:=⟨b',off'+j*4+0,none⟩) hbl').trans (hc' 0 _ rfl)
   have C1:=(hb.cell (p:=⟨b,off+j*4+1,none⟩) hbl).trans (hc 1 _ rfl)
   have D1:=(hb.cell (p:=⟨b',off'+j*4+1,none⟩) hbl').trans (hc' 1 _ rfl)
   have C2:=(hb.cell (p:=⟨b,off+j*4+2,none⟩) hbl).trans (hc 2 _ rfl)
   have D2:=(hb.cell (p:=⟨b',off'+j*4+2,none⟩) hbl').trans (hc' 2 _ rfl)
   have C3:=(hb.cell (p:=⟨b,off+j*4+3,none⟩) hbl).trans (hc 3 _ rfl)
   have D3:=(hb.cell (p:=⟨b',off'+j*4+3,none⟩) hbl').trans (hc' 3 _ rfl)
   rw [Nat.add_zero] at C0 D0
   have i1:(j:Int) < (n2:Int):=by omega
   have i2:(0:Int)<=(j:Int):=by omega
   clear hc hc' hsv hzv hbl hbl' hjl hjl' HV HV' HN HN2 es0 es1 es2 ez0 ez1 ez2 hI HI
   cases g0 with
   | false=>
    have hF:V=false:=by rw [<- HI3.out];simp
    subst hF
    go_wp2
    go_region
    go_wp2
    go_ret
    exact ⟨rfl,hb.drew⟩
   | true=>
   cases g1 with
   | false=>
    have hF:V=false:=by rw [<- HI3.out];simp
    subst hF
    go_wp2
    go_region
    go_wp2
    go_ret
    exact ⟨rfl,hb.drew⟩
   | true=>
   cases g2 with
   | false=>
    have hF:V=false:=by rw [<- HI3.out];simp
    subst hF
    go_wp2
    go_region
    go_wp2
    go_ret
    exact ⟨rfl,hb.drew⟩
   | true=>
   cases g3 with
   | false=>
    have hF:V=false:=by rw [<- HI3.out];simp
    subst hF
    go_wp2
    go_region
    go_wp2
    go_ret
    exact ⟨rfl,hb.drew⟩
   | true=>
   have HI4:Hid (eqL sqV (c.2.2.1.drop (j+1)) (c'.2.2.1.drop (j+1))=V):=by show _=_;have:=HI3.out;simpa using this
   go_wp2
   go_region
   go_wp2
   go_roundw
   case rel=>exact ⟨j+1,hlt,by go_num,HI4,hA.drew,hB.drew,hb.drew⟩
   case measure=>simp [RowKit.intOf];omega
  ·have i1:¬ (j:Int) < (n2:Int):=by omega
   have hV:V=true:=by rw [<- HI.out];exact zbO sqV (by rw [HN.out];omega) (by rw [HN2.out];omega)
   subst hV
   go_wp2
   go_ret
   exact ⟨rfl,hb⟩
end Go.Proofs.YtlkdaldfklaicaaGreatDoor
namespace Go.Proofs.YtlkdaldfklaicaaGreatDoor
open Go.ChangeShapes Go.WideShapes Go.ChangeAt Go.RowKit
set_option linter.unusedSimpArgs false
set_option linter.unusedVariables false
theorem zj8 (g:Nat):(g+2) / 2=g / 2+1:=by omega
theorem znf {α:Type}{p:Nat->α->Prop}:∀ (n:Nat),(∀ i,i < n->∃ a,p i a)->∃ l:List α,l.length=n/\∀ (i:Nat) (h:i < l.length),p i l[i]
 | 0,_=>⟨[],rfl,fun i h=>absurd h (by simp)⟩
 | n+1,H=>by
  obtain ⟨l,hl,hp⟩:=znf n (fun i hi=>H i (by omega))
  obtain ⟨a,ha⟩:=H n (by omega)
  refine ⟨l++[a],by simp [hl],fun i h=>?_⟩
  rcases Nat.lt_or_ge i l.length with hi|hi
  ·rw [List.getElem_append_left hi];exact hp i hi
  ·have:i=n:=by simp at h;omega
   subst this
   have e:(l++[a])[i]'h=a:=by simp [<- hl]
   rw [e];exact ha
theorem zeT {H:Type}{enc:TypeId × Value->H}{W:World}:∀ (m fuel:Nat),fuel<=m->∀ {cs:List Value}{x:DataW H × List MemPlace},DataW.trod enc Tryz.prog W 0 (fun _=>true) true fuel 79 cs=some x->
  ∃ (d:Nat) (t:T d) (c0 c1 c2 c3:Value),d=fuel / 2/\cs=[c0,c1,c2,c3]/\RdT (fun _=>True) W d t (.agg #[c0,c1,c2,c3])
 | 0,fuel,hf,cs,x,h=>by
  obtain rfl:fuel=0:=by omega
  simp [DataW.trod] at h
 | m+1,fuel,hf,cs,x,h=>by
  obtain ⟨xs,n,rfl,rfl,hl,hlen,hfd⟩:=DataW.trod_struct Tryz.underlying79 h
  have hc:Tryz.prog.cellsOf 79=4:=by kernel_rfl
  have cI:Tryz.prog.cellsOf 3=1:=by kernel_rfl
  have cL:Tryz.prog.cellsOf 2=1:=by kernel_rfl
  have c9:Tryz.prog.cellsOf 9=1:=by kernel_rfl
  have cP:Tryz.prog.cellsOf 77=1:=by kernel_rfl
  rw [hc] at hl
  have f0:DataW.trod enc Tryz.prog W 0 (fun _=>true) true n 3 ((cs.drop 0).take (Tryz.prog.cellsOf 3))=xs[0]?:=hfd 0 _ rfl
  have f1:DataW.trod enc Tryz.prog W 0 (fun _=>true) true n 2 ((cs.drop 1).take (Tryz.prog.cellsOf 2))=xs[1]?:=hfd 1 _ rfl
  have f2:DataW.trod enc Tryz.prog W 0 (fun _=>true) true n 9 ((cs.drop 2).take (Tryz.prog.cellsOf 9))=xs[2]?:=hfd 2 _ rfl
  have f3:DataW.trod enc Tryz.prog W 0 (fun _=>true) true n 77 ((cs.drop 3).take (Tryz.prog.cellsOf 77))=xs[3]?:=hfd 3 _ rfl
  rw [cI] at f0
  rw [cL] at f1
  rw [c9] at f2
  rw [cP] at f3
  match cs,hl,xs,hlen with
  | [a,b,c,e],_,[y0,y1,y2,y3],_=>
   simp only [List.drop_zero,List.take_succ_cons,List.take_zero,List.drop_succ_cons,List.getElem?_cons_zero,List.getElem?_cons_succ] at f0 f1 f2 f3
   obtain ⟨k,e0,rfl,_⟩:=DataW.trod_int Tryz.underlying3 f0
   obtain ⟨nn,e1,rfl,_⟩:=DataW.trod_int Tryz.underlying2 f1
   obtain ⟨s,e2,rfl,_⟩:=DataW.trod_string Tryz.underlying9 f2
   simp only [List.cons.injEq,and_true] at e0 e1 e2
   subst e0 e1 e2
   obtain ⟨g,rfl⟩:∃ g,n=g+1:=by
    cases n with
    | zero=>simp [DataW.trod] at f3
    | succ g=>exact ⟨g,rfl⟩
   rcases DataW.trod_slice Tryz.underlying77 f3 with ⟨hcs,_⟩|⟨ad,len,cap,elems,rest,n',hn',hcs,_,_,hlc,hcm,hel,helt,_,_⟩
   ·simp only [List.cons.injEq,and_true] at hcs
    subst hcs
    refine ⟨g / 2+1,mkT k nn s [],_,_,_,_,(zj8 g).symm,rfl,zaT.2 ⟨_,rfl,none,0,rfl,by simp,by simp [maxLen],fun _=>rfl,fun x hx=>by cases hx⟩⟩
   ·obtain rfl:n'=g:=by omega
    simp only [List.cons.injEq,and_true] at hcs
    subst hcs
    rw [hc] at helt
    have hall:∀ i,i < len->∃ q:T (n' / 2) × Value × Value × Value × Value,W.cells? 0 (ad.add (i*4)) 4=some [q.2.1,q.2.2.1,q.2.2.2.1,q.2.2.2.2]/\RdT (fun _=>True) W (n' / 2) q.1 (.agg #[q.2.1,q.2.2.1,q.2.2.2.1,q.2.2.2.2]):=by
     intro i hi
     have h1:=helt i hi
     rw [List.getElem?_eq_getElem (by omega)] at h1
     obtain ⟨cs',h2,h3⟩:=Option.bind_eq_some_iff.1 h1
     obtain ⟨d,t,c0,c1,c2,c3,rfl,rfl,hr⟩:=zeT m n' (by omega) h3
     exact ⟨(t,c0,c1,c2,c3),h2,hr⟩
    obtain ⟨l,hll,hfy⟩:=znf len hall
    refine ⟨n' / 2+1,mkT k nn s (l.map (fun q=>q.1)),_,_,_,_,(zj8 n').symm,rfl,zaT.2 ⟨_,rfl,some ad,cap,by simp [hll],by simpa [hll] using hlc,hcm,by simp,?_⟩⟩
    intro z hz i hi
    obtain rfl:=Option.some.inj hz
    have hi':i < l.length:=by simpa using hi
    obtain ⟨g1,g2⟩:=hfy i hi'
    obtain ⟨_,_,hcell⟩:=World.cells?_some g1
    have k0:=hcell 0 (by omega)
    have k1:=hcell 1 (by omega)
    have k2:=hcell 2 (by omega)
    have k3:=hcell 3 (by omega)
    rw [Go.Deep.add_add] at k0 k1 k2 k3
    simp only [Nat.add_zero] at k0
    refine ⟨trivial,(l[i]).2.1,(l[i]).2.2.1,(l[i]).2.2.2.1,(l[i]).2.2.2.2,?_,by simpa using k0,by simpa using k1,by simpa using k2,by simpa using k3⟩
    simp only [List.getElem_map]
    exact g2
