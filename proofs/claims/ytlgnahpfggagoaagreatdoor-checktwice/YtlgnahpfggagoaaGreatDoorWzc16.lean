import Derived.Test.YtlgnahpfggagoaaGreatDoorWzc15
import Derived.Deep.RegionLaw
import Derived.Test.YtlgnahpfggagoaaGreatDoorWzc04
/- What the program's on does. -/
namespace Go.Proofs.YtlgnahpfggagoaaGreatDoor
open Go.RowKit Go.Lib
set_option linter.unusedSimpArgs false
set_option linter.unusedVariables false
attribute [local go_sem ↓] Go.wp_at_zero Go.wp_at_succ
/-- Where the reader stands. -/
def nxt (w:World) (X:Nat):Nat:=match w.cell? ⟨X,1,none⟩ with | some (.int _ n)=>n.toNat | _=>0
theorem Pr.left {w:World}{X:Nat}{a:Option Addr}{cap:Nat}{ws:List Wd}{fin:Pl}{r:RsC}(h:Pr w X a cap ws fin r):ws.length - nxt w X=r.1.length:=by
 obtain ⟨n,h1,h2,h3,_⟩:=h
 unfold nxt
 rw [h1.c1,h2,List.length_drop]
 rfl
theorem Pr.len {w:World}{X:Nat}{a:Option Addr}{cap:Nat}{ws:List Wd}{fin:Pl}{r:RsC}(h:Pr w X a cap ws fin r):r.1.length≤ws.length:=by
 obtain ⟨n,h1,h2,h3,_⟩:=h
 rw [h2,List.length_drop]
 omega
theorem Rr.keepB {w w':World}{X B:Nat}{a:Option Addr}{cap:Nat}{ws:List Wd}{n:Nat}{b:Int}(h:Rr w X a cap ws n b) (hb:Below B w w') (hX:X < B):Rr w' X a cap ws n b:=by
 have hc:∀ i,w'.cell? ⟨X,i,none⟩=w.cell? ⟨X,i,none⟩:=fun i=>hb.cell (p:=⟨X,i,none⟩) hX
 have hf:∀ i,w'.frozen? ⟨X,i,none⟩=w.frozen? ⟨X,i,none⟩:=fun i=>hb.frozen (p:=⟨X,i,none⟩) hX
 refine ⟨(hc 0).trans h.c0,(hc 1).trans h.c1,(hc 2).trans h.c2,(hf 1).trans h.f1,(hf 2).trans h.f2,fun i hi=>?_⟩
 obtain ⟨g,off,h1,h2,d0,d1,d2,d3⟩:=h.l i hi
 have hg:g < B:=Nat.lt_trans h2 hX
 exact ⟨g,off,h1,h2,(hb.cell (p:=⟨g,off+i*4,none⟩) hg).trans d0,(hb.cell (p:=⟨g,off+i*4+1,none⟩) hg).trans d1,(hb.cell (p:=⟨g,off+i*4+2,none⟩) hg).trans d2,(hb.cell (p:=⟨g,off+i*4+3,none⟩) hg).trans d3⟩
theorem Pr.belowB {w w':World}{X B:Nat}{a:Option Addr}{cap:Nat}{ws:List Wd}{fin:Pl}{r:RsC}(h:Pr w X a cap ws fin r) (hb:Below B w w') (hX:X < B):Pr w' X a cap ws fin r:=by
 obtain ⟨n,h1,h2,h3,h4⟩:=h
 exact ⟨n,h1.keepB hb hX,h2,h3,h4⟩
theorem Fx.andB {X B:Nat}{a b c:World}(h:Fx X a b) (k:Below B b c) (hB:a.heap.size≤B):Fx X a c:=
 ⟨k.os.trans h.os,k.tape.trans h.tape,k.output.trans h.output,Nat.le_trans h.size k.size,fun j hj h1=>(k.block j (by omega)).trans (h.block j hj h1)⟩
/-- What stands behind on. -/
def on1R (fin:Pl) (r:RsC):OnC × RsC:=
 let a:=nameR fin r
 let g:(Bool × Sx) × RsC:=if isC wIf a.2=true then ((fun x=>((true,x.1),x.2)) (exprR fin (takeR fin wIf a.2))) else ((false,noX),a.2)
 let t:=nameR fin (takeR fin wGo g.2)
 let s:=setsR fin (t.2.1.length+1) [] t.2
 ((a.1.1,g.1,t.1.1,s.1,a.1.2),s.2)
theorem on_1 (fin:Pl) (r:RsC):onR fin r=on1R fin (takeR fin wOn r):=rfl
theorem sets_yes {fin:Pl}{g:Nat}{acc:List (List UInt8 × Sx)}{r:RsC}(h:isC wSet r=true):setsR fin (g+1) acc r=setsR fin g (acc++[(setR fin (takeR fin wSet r)).1]) (setR fin (takeR fin wSet r)).2:=by
 show (if isC wSet r=true then _ else _)=_
 rw [if_pos h];rfl
theorem sets_no {fin:Pl}{g:Nat}{acc:List (List UInt8 × Sx)}{r:RsC}(h:isC wSet r=false):setsR fin (g+1) acc r=(acc,r):=by
 show (if isC wSet r=true then _ else _)=_
 rw [if_neg (by rw [h];decide)]
theorem goes_set (fin:Pl) (r:RsC):Goes r (setR fin r).2:=(goes_name fin r).trans ((goes_take fin [61] _).trans (goes_expr fin _))
abbrev zO6:Obj:=.cells #[.string ⟨#[]⟩,.nilIface,.string ⟨#[]⟩,.slice none 0 0,.int .i64 0,.int .i64 0] 79
abbrev zOl:List Value:=[.string ⟨#[]⟩,.nilIface,.string ⟨#[]⟩,.slice none 0 0,.int .i64 0,.int .i64 0]
theorem on_res {w4:World}{R:Nat}{a b c d e f:Value}{tmps:Array Value}(hR:Bn w4 R [a,b,c,d,e,f]) (ht:tmps.getD 2 undef=.pointer (some ⟨R,0,none⟩)):(results Tryz.f107 tmps).run Tryz.prog w4=.ok (.agg #[a,b,c,d,e,f]) w4:=by
 have ht':tmps[2]?.getD undef=.pointer (some ⟨R,0,none⟩):=by simpa using ht
 have c0:=(hR 0 _ rfl).1
 have c1:=(hR 1 _ rfl).1
 have c2:=(hR 2 _ rfl).1
 have c3:=(hR 3 _ rfl).1
 have c4:=(hR 4 _ rfl).1
 have c5:=(hR 5 _ rfl).1
 simp [results,Tryz.results107,go_sem,ht',c0,c1,c2,c3,c4,c5]
theorem Tryz.infoSet:(Tryz.prog.info? 82).map (fun i=>(i.zero,i.size,i.bytes))=some (some (.agg #[.string ⟨#[]⟩,.nilIface]),2,32):=by kernel_rfl
set_option maxRecDepth 100000 in
set_option maxHeartbeats 8000000 in
theorem pon_any {w:World}{X:Nat}{a:Option Addr}{cap:Nat}{ws:List Wd}{fin:Pl}{r:RsC}(h:Pr w X a cap ws fin r) (hk:Wk ws cap) :
  Calls Tryz.prog 107 #[.pointer (some ⟨X,0,none⟩)] w fun e w'=>(∃ cs,e=.returned (.agg cs.toArray)∧rOn (fun b=>w.heap.size≤b) w' (on1R fin r).1 cs)∧Pr w' X a cap ws fin (on1R fin r).2∧Fx X w w':=by
 obtain ⟨i0,hi,hz0,hz1,hz2⟩:=info_parts Tryz.infoSet
 have hX:=h.lt
 have hlen:=hk.l
 have hbel:Below w.heap.size w ((w.alloc zO6).alloc zO6):=((Below.refl _ _).alloc (Nat.le_refl _) _).alloc (by simp) _
 have hp0:=h.on hbel
 have hA0:Bn ((w.alloc zO6).alloc zO6) w.heap.size zOl:=(Bn.new w zOl 79 _ rfl).on ((Below.refl _ _).alloc (Nat.le_refl _) _)
 have hB0:Bn ((w.alloc zO6).alloc zO6) (w.heap.size+1) zOl:=Bn.new (w.alloc zO6) zOl 79 _ (by simp)
 have hN:=pname_any hp0 hk
 have hs0:w.heap.size+2≤((w.alloc zO6).alloc zO6).heap.size:=by simp
 obtain ⟨RES,hRES⟩:∃ x,on1R fin r=x:=⟨_,rfl⟩
 rw [hRES]
 unfold on1R at hRES
 obtain ⟨⟨⟨nm,ln,co⟩,r1⟩,hR1⟩:∃ x,nameR fin r=x:=⟨_,rfl⟩
 rw [hR1] at hN hRES
 simp only at hN hRES
 have e1:(⟨wIf.toArray⟩:ByteArray)=⟨#[105,102]⟩:=rfl
 have e2:(⟨wGo.toArray⟩:ByteArray)=⟨#[103,111]⟩:=rfl
 have e3:(⟨wSet.toArray⟩:ByteArray)=⟨#[115,101,116]⟩:=rfl
 have hS:=fun w1 (hp:Pr w1 X a cap ws fin r1)=>skips_any hp hk wIf
 have hM:=fun w1 q (hp:Pr w1 X a cap ws fin q)=>must_any hp hk wGo
 have hN2:=fun w1 q (hp:Pr w1 X a cap ws fin q)=>pname_any hp hk
 have hQ:=fun w1 q (hp:Pr w1 X a cap ws fin q)=>skips_any hp hk wSet
 have hT:=fun w1 q (hp:Pr w1 X a cap ws fin q)=>pset_any hp hk
 rw [e1] at hS
 rw [e2] at hM
 rw [e3] at hQ
 unfold sV at hN hN2
 obtain ⟨ev,hev⟩:∃ nv,(⟨nm.toArray⟩:ByteArray)=nv:=⟨_,rfl⟩
 rw [hev] at hN
 have HEV:Hid ((⟨nm.toArray⟩:ByteArray)=ev):=hev
 have hF0:Fx X w ((w.alloc zO6).alloc zO6):=Fx.of hbel (Nat.le_refl _)
 clear hR1 hev hbel h
 cases hif:isC wIf r1 with
 | false=>
  simp only [hif,skR_no hif] at hS
  rw [hif,if_neg (by decide)] at hRES
  simp only at hRES
  go_enter Tryz.func107,Tryz.ntmps107
  go_upto_region 2 with fail
  generalize (w.alloc zO6).alloc zO6=w0 at *
  go_upto_region 3 with (first
   | (go_at_call 72;refine hN.mono ?_;rintro e w1 ⟨rfl,hp1,hf1⟩;have hA1:=hA0.fx hf1 (by omega);have hB1:=hB0.fx hf1 (by omega);have hF1:=hF0.trans hf1;obtain ⟨b0,g0⟩:=hB1 0 _ rfl;obtain ⟨b4,g4⟩:=hB1 4 _ rfl;obtain ⟨b5,g5⟩:=hB1 5 _ rfl))
  have hA2:=((hA1.far (X:=w.heap.size+1) (i:=0) (by omega) (.string ev)).far (X:=w.heap.size+1) (i:=4) (by omega) (.int .i64 ln)).far (X:=w.heap.size+1) (i:=5) (by omega) (.int .i64 co)
  have hB2:=((hB1.set (i:=0) (by simp) (.string ev)).set (i:=4) (by simp) (.int .i64 ln)).set (i:=5) (by simp) (.int .i64 co)
  have hp2:=((hp1.far (Y:=w.heap.size+1) (i:=0) (by omega) (.string ev)).far (Y:=w.heap.size+1) (i:=4) (by omega) (.int .i64 ln)).far (Y:=w.heap.size+1) (i:=5) (by omega) (.int .i64 co)
  have hF2:=((hF1.setN (N:=w.heap.size+1) (i:=0) (by omega) (.string ev)).setN (N:=w.heap.size+1) (i:=4) (by omega) (.int .i64 ln)).setN (N:=w.heap.size+1) (i:=5) (by omega) (.int .i64 co)
  have hs2:w.heap.size+2≤(((w1.setCell ⟨w.heap.size+1,0,none⟩ (.string ev)).setCell ⟨w.heap.size+1,4,none⟩ (.int .i64 ln)).setCell ⟨w.heap.size+1,5,none⟩ (.int .i64 co)).heap.size:=by simpa using Nat.le_trans hs0 hf1.size
  clear hA0 hB0 hA1 hB1 hp1 hf1 hF1 hF0 b0 g0 b4 g4 b5 g5 hp0 hN hs0
  generalize ((w1.setCell ⟨w.heap.size+1,0,none⟩ (.string ev)).setCell ⟨w.heap.size+1,4,none⟩ (.int .i64 ln)).setCell ⟨w.heap.size+1,5,none⟩ (.int .i64 co)=w2 at *
  go_upto_region 5 with (first
   | (go_at_call 74;refine (hS _ hp2).mono ?_;rintro e w4 ⟨rfl,hp4,hf4⟩))
  have hA5:=hA2.fx hf4 (by omega)
  have hB5:Bn w4 (w.heap.size+1) [.string ev,.nilIface,.string ⟨#[]⟩,.slice none 0 0,.int .i64 ln,.int .i64 co]:=hB2.fx hf4 (by omega)
  have hp5:=hp4
  have hF5:=hF2.trans hf4
  have hs5:w.heap.size+2≤w4.heap.size:=Nat.le_trans hs2 hf4.size
  clear hA2 hB2 hp2 hp4 hF2 hf4 hs2 hS
  obtain ⟨w5,hw5⟩:∃ w5,w4=w5:=⟨_,rfl⟩
  subst hw5
  have hM1:=hM _ _ hp5
  have hN3:=fun w1 (hp:Pr w1 X a cap ws fin (takeR fin wGo r1))=>hN2 w1 _ hp
  generalize takeR fin wGo r1=r3 at *
  obtain ⟨⟨⟨tn,tl,tc⟩,r4⟩,hR4⟩:∃ x,nameR fin r3=x:=⟨_,rfl⟩
  simp only [hR4] at hN3 hRES
  obtain ⟨tg,htg⟩:∃ nv,(⟨tn.toArray⟩:ByteArray)=nv:=⟨_,rfl⟩
  simp only [htg] at hN3
  obtain ⟨OUT,hOUT⟩:∃ o,setsR fin (r4.1.length+1) [] r4=o:=⟨_,rfl⟩
  rw [hOUT] at hRES
  have HO:Hid (setsR fin (r4.1.length+1) [] r4=OUT):=hOUT
  have HT:Hid ((⟨tn.toArray⟩:ByteArray)=tg):=htg
  have HRES:Hid (((nm,(false,noX),tn,OUT.1,(ln,co)),OUT.2)=RES):=hRES
  clear hR4 htg hOUT hRES
  go_upto_region 6 with (first
   | (go_at_call 71;refine hM1.mono ?_;rintro e w6 ⟨⟨u,rfl⟩,hp6,hf6⟩))
  have hA6:=hA5.fx hf6 (by omega)
  have hB6:=hB5.fx hf6 (by omega)
  have hF6:=hF5.trans hf6
  have hs6:=Nat.le_trans hs5 hf6.size
  clear hA5 hB5 hp5 hF5 hf6 hs5 hM hM1
  go_upto_region 7 with (first
   | (go_at_call 72;refine (hN3 _ hp6).mono ?_;rintro e w7 ⟨rfl,hp7,hf7⟩;have hA7:=hA6.fx hf7 (by omega);have hB7:=hB6.fx hf7 (by omega);have hF7:=hF6.trans hf7;have hs7:=Nat.le_trans hs6 hf7.size;obtain ⟨b2,g2⟩:=hB7 2 _ rfl))
  have hA8:=hA7.far (X:=w.heap.size+1) (i:=2) (by omega) (.string tg)
  have hB8:Bn (w7.setCell ⟨w.heap.size+1,2,none⟩ (.string tg)) (w.heap.size+1) [.string ev,.nilIface,.string tg,.slice none 0 0,.int .i64 ln,.int .i64 co]:=hB7.set (i:=2) (by simp) (.string tg)
  have hp8:=hp7.far (Y:=w.heap.size+1) (i:=2) (by omega) (.string tg)
  have hF8:=hF7.setN (N:=w.heap.size+1) (i:=2) (by omega) (.string tg)
  have hs8:w.heap.size+2≤(w7.setCell ⟨w.heap.size+1,2,none⟩ (.string tg)).heap.size:=by simpa using hs7
  clear hA6 hB6 hp6 hF6 hA7 hB7 hp7 hF7 hf7 hs6 hs7 b2 g2 hN3 hN2
  generalize w7.setCell ⟨w.heap.size+1,2,none⟩ (.string tg)=w8 at *
  have hl4:=hp8.len
  go_loopw [] (fun wr=>∃ (g:Nat) (acc:List (List UInt8 × Sx)) (q:RsC) (slv:Value),Pr wr X a cap ws fin q∧Hid (setsR fin g acc q=OUT)∧q.1.length < g∧acc.length+q.1.length≤3000∧Bn wr (w.heap.size+1) [.string ev,.nilIface,.string tg,slv,.int .i64 ln,.int .i64 co]∧OwnK wr (w.heap.size+2) 82 2 rSet slv acc∧Bn wr w.heap.size zOl∧Fx X w wr∧w.heap.size+2≤wr.heap.size) (fun wr=>ws.length - nxt wr X)
  case atStart=>exact ⟨_,[],r4,_,hp8,HO,Nat.lt_succ_self _,by simp;omega,hB8,ownK_nil _ _ _ _ _,hA8,hF8,hs8⟩
  case round=>
   clear hA8 hB8 hp8 hF8 hs8 HO
   obtain ⟨g,acc,q,slv,hp,ho,hgl,hal,hB,hO,hA,hF,hsz⟩:=hrel
   obtain ⟨g',rfl⟩:∃ g',g=g'+1:=⟨g - 1,by omega⟩
   have hm1:=hp.left
   obtain ⟨va,vc,rfl,hvl,hvm⟩:=hO.form
   have hQ1:=hQ _ _ hp
   cases hi1:isC wSet q with
   | true=>
    rw [hi1,skR_yes hi1] at hQ1
    have hout:=ho.out
    rw [sets_yes hi1] at hout
    have hT1:=fun w1 (hp:Pr w1 X a cap ws fin (takeR fin wSet q))=>hT w1 _ hp
    have hgo:=(goes_set fin (takeR fin wSet q)).1
    have hlt:=takeR_less fin hi1
    generalize takeR fin wSet q=q1 at *
    obtain ⟨⟨s1,q2⟩,hS1⟩:∃ x,setR fin q1=x:=⟨_,rfl⟩
    simp only [hS1] at hT1 hout hgo
    have HOUT:Hid (setsR fin g' (acc++[s1]) q2=OUT):=hout
    have hxf:=exX_form s1.2
    have hcel:∀ (w:World) (lo:Nat),rSet (fun b=>lo≤b) w s1 [sV s1.1,exX s1.2]:=fun _ _=>rfl
    obtain ⟨xv,hxv⟩:∃ xv,exX s1.2=xv:=⟨_,rfl⟩
    simp only [hxv] at hT1 hxf hcel
    unfold sV at hT1 hcel
    obtain ⟨sn,hsn⟩:∃ nv,(⟨s1.1.toArray⟩:ByteArray)=nv:=⟨_,rfl⟩
    simp only [hsn] at hT1 hcel
    have HC:Hid (∀ (w:World) (lo:Nat),rSet (fun b=>lo≤b) w s1 [.string sn,xv]):=hcel
    clear hS1 hout hxv hsn hcel ho
    go_upto_region 8 with (first
     | (go_at_call 74;refine hQ1.mono ?_;rintro e w9 ⟨rfl,hp9,hf9⟩))
    have hB9:=hB.fx hf9 (by omega)
    have hA9:=hA.fx hf9 (by omega)
    have hO9:=hO.fx kp_set hf9 (by omega)
    have hF9:=hF.trans hf9
    have hs9:=Nat.le_trans hsz hf9.size
    have hp9d:=hp9.on ((Below.refl w9.heap.size w9).drew)
    clear hB hA hO hF hf9 hsz hp hQ1 hp9
    obtain ⟨k3,z3⟩:=hB9 3 _ rfl
    rcases hxf with rfl | ⟨xu,xy,rfl⟩
    ·go_region_law (first
      | (refine step_push wa rfl _ _ 77 rfl (w.heap.size+2) 82 i0 (.agg #[.string ⟨#[]⟩,.nilIface]) 2 32 Tryz.underlying77 hi hz0 hz1 hz2 rfl kp_set (.slice va acc.length vc) acc s1 [.string sn,.nilIface] wa.heap.size rfl rfl rfl (by simp [Value.oneCell']) hOa (HC.out _ _) hsa (fun x hx=>by obtain ⟨qs,hoq,_⟩:=hOa;exact (ownsRow_lt hoq x hx).2) (by omega) (by unfold maxLen;omega) hsa ?_;intro vb wb hOb hgb hbb;have hBb:=hBa.blk (hbb.block _ (by omega));have hAb:=hAa.blk (hbb.block _ (by omega));have hpb:=hpa.belowB hbb (by omega);have hFb:=hFa.andB hbb (by omega);obtain ⟨m5,n5⟩:=hBb 3 _ rfl;obtain ⟨vba,vbc,hvb,hvbl,hvbm⟩:=hOb.form;rw [List.length_append,List.length_singleton] at hvb;subst hvb)
      | (go_simp;(with_reducible refine (hT1 _ hp9d).mono ?_);rintro e wa ⟨rfl,hpa,hfa⟩;have hfa':=((Fx.refl X w9).drew).trans hfa;have hBa:=hB9.fx hfa' (by omega);have hAa:=hA9.fx hfa' (by omega);have hOa:=hO9.fx kp_set hfa' (by omega);have hFa:=hF9.trans hfa';have hsa:=Nat.le_trans hs9 hfa'.size;obtain ⟨m3,n3⟩:=hBa 3 _ rfl;have hali:=(Below.refl wa.heap.size wa).alloc (Nat.le_refl _) (.cells #[.string sn,.nilIface] 82);have m4:=((hBa.on hali) 3 _ rfl).1))
     all_goals (
      have hBc:=hBb.set (i:=3) (by simp) (.slice vba (acc.length+1) vbc)
      have hAc:=hAb.far (X:=w.heap.size+1) (i:=3) (by omega) (.slice vba (acc.length+1) vbc)
      have hOc:=hOb.set kp_set (X:=w.heap.size+1) (i:=3) (by omega) (.slice vba (acc.length+1) vbc)
      have hpc:=hpb.far (Y:=w.heap.size+1) (i:=3) (by omega) (.slice vba (acc.length+1) vbc)
      have hFc:=hFb.setN (N:=w.heap.size+1) (i:=3) (by omega) (.slice vba (acc.length+1) vbc)
      have hsc:w.heap.size+2≤(wb.setCell ⟨w.heap.size+1,3,none⟩ (.slice vba (acc.length+1) vbc)).heap.size:=by simpa using Nat.le_trans hsa hbb.size
      have hm2:=hpc.left
      have hlc:(acc++[s1]).length=acc.length+1:=by simp
      clear hBa hAa hOa hpa hFa hfa hfa' hsa m3 n3 hali m4 hBb hAb hOb hpb hFb hgb hbb k3 z3
      go_wp2
      go_roundw
      case rel=>exact ⟨g',acc++[s1],q2,_,hpc,HOUT,by omega,by omega,hBc,hOc,hAc,hFc,hsc⟩
      case measure=>omega)
    ·go_region_law (first
      | (refine step_push wa rfl _ _ 77 rfl (w.heap.size+2) 82 i0 (.agg #[.string ⟨#[]⟩,.nilIface]) 2 32 Tryz.underlying77 hi hz0 hz1 hz2 rfl kp_set (.slice va acc.length vc) acc s1 [.string sn,(.iface xu xy)] wa.heap.size rfl rfl rfl (by simp [Value.oneCell']) hOa (HC.out _ _) hsa (fun x hx=>by obtain ⟨qs,hoq,_⟩:=hOa;exact (ownsRow_lt hoq x hx).2) (by omega) (by unfold maxLen;omega) hsa ?_;intro vb wb hOb hgb hbb;have hBb:=hBa.blk (hbb.block _ (by omega));have hAb:=hAa.blk (hbb.block _ (by omega));have hpb:=hpa.belowB hbb (by omega);have hFb:=hFa.andB hbb (by omega);obtain ⟨m5,n5⟩:=hBb 3 _ rfl;obtain ⟨vba,vbc,hvb,hvbl,hvbm⟩:=hOb.form;rw [List.length_append,List.length_singleton] at hvb;subst hvb)
      | (go_simp;(with_reducible refine (hT1 _ hp9d).mono ?_);rintro e wa ⟨rfl,hpa,hfa⟩;have hfa':=((Fx.refl X w9).drew).trans hfa;have hBa:=hB9.fx hfa' (by omega);have hAa:=hA9.fx hfa' (by omega);have hOa:=hO9.fx kp_set hfa' (by omega);have hFa:=hF9.trans hfa';have hsa:=Nat.le_trans hs9 hfa'.size;obtain ⟨m3,n3⟩:=hBa 3 _ rfl;have hali:=(Below.refl wa.heap.size wa).alloc (Nat.le_refl _) (.cells #[.string sn,(.iface xu xy)] 82);have m4:=((hBa.on hali) 3 _ rfl).1))
     all_goals (
      have hBc:=hBb.set (i:=3) (by simp) (.slice vba (acc.length+1) vbc)
      have hAc:=hAb.far (X:=w.heap.size+1) (i:=3) (by omega) (.slice vba (acc.length+1) vbc)
      have hOc:=hOb.set kp_set (X:=w.heap.size+1) (i:=3) (by omega) (.slice vba (acc.length+1) vbc)
      have hpc:=hpb.far (Y:=w.heap.size+1) (i:=3) (by omega) (.slice vba (acc.length+1) vbc)
      have hFc:=hFb.setN (N:=w.heap.size+1) (i:=3) (by omega) (.slice vba (acc.length+1) vbc)
      have hsc:w.heap.size+2≤(wb.setCell ⟨w.heap.size+1,3,none⟩ (.slice vba (acc.length+1) vbc)).heap.size:=by simpa using Nat.le_trans hsa hbb.size
      have hm2:=hpc.left
      have hlc:(acc++[s1]).length=acc.length+1:=by simp
      clear hBa hAa hOa hpa hFa hfa hfa' hsa m3 n3 hali m4 hBb hAb hOb hpb hFb hgb hbb k3 z3
      go_wp2
      go_roundw
      case rel=>exact ⟨g',acc++[s1],q2,_,hpc,HOUT,by omega,by omega,hBc,hOc,hAc,hFc,hsc⟩
      case measure=>omega)
   | false=>
    rw [hi1,skR_no hi1] at hQ1
    have hout:=ho.out
    rw [sets_no hi1] at hout
    have HOUT:Hid ((acc,q)=OUT):=hout
    clear hout ho
    go_upto_region 9 with (first
     | (go_at_call 74;refine hQ1.mono ?_;rintro e w9 ⟨rfl,hp9,hf9⟩))
    have hB9:=hB.fx hf9 (by omega)
    have hA9:=hA.fx hf9 (by omega)
    have hO9:=hO.fx kp_set hf9 (by omega)
    have hF9:=hF.trans hf9
    clear hB hA hO hF hf9 hsz hp hQ1
    obtain ⟨b0,g0⟩:=hB9 0 _ rfl
    obtain ⟨b1,g1⟩:=hB9 1 _ rfl
    obtain ⟨b2,g2⟩:=hB9 2 _ rfl
    obtain ⟨b3,g3⟩:=hB9 3 _ rfl
    obtain ⟨b4,g4⟩:=hB9 4 _ rfl
    obtain ⟨b5,g5⟩:=hB9 5 _ rfl
    obtain ⟨a0,k0⟩:=hA9 0 _ rfl
    obtain ⟨a1,k1⟩:=hA9 1 _ rfl
    obtain ⟨a2,k2⟩:=hA9 2 _ rfl
    obtain ⟨a3,k3⟩:=hA9 3 _ rfl
    obtain ⟨a4,k4⟩:=hA9 4 _ rfl
    obtain ⟨a5,k5⟩:=hA9 5 _ rfl
    have hA10:=(((((hA9.set (i:=0) (by simp) (.string ev)).set (i:=1) (by simp) .nilIface).set (i:=2) (by simp) (.string tg)).set (i:=3) (by simp) (.slice va acc.length vc)).set (i:=4) (by simp) (.int .i64 ln)).set (i:=5) (by simp) (.int .i64 co)
    have hO10:=(((((hO9.set kp_set (X:=w.heap.size) (i:=0) (by omega) (.string ev)).set kp_set (X:=w.heap.size) (i:=1) (by omega) .nilIface).set kp_set (X:=w.heap.size) (i:=2) (by omega) (.string tg)).set kp_set (X:=w.heap.size) (i:=3) (by omega) (.slice va acc.length vc)).set kp_set (X:=w.heap.size) (i:=4) (by omega) (.int .i64 ln)).set kp_set (X:=w.heap.size) (i:=5) (by omega) (.int .i64 co)
    have hp10:=(((((hp9.far (i:=0) hX (.string ev)).far (i:=1) hX .nilIface).far (i:=2) hX (.string tg)).far (i:=3) hX (.slice va acc.length vc)).far (i:=4) hX (.int .i64 ln)).far (i:=5) hX (.int .i64 co)
    have hF10:=(((((hF9.setN (i:=0) (Nat.le_refl _) (.string ev)).setN (i:=1) (Nat.le_refl _) .nilIface).setN (i:=2) (Nat.le_refl _) (.string tg)).setN (i:=3) (Nat.le_refl _) (.slice va acc.length vc)).setN (i:=4) (Nat.le_refl _) (.int .i64 ln)).setN (i:=5) (Nat.le_refl _) (.int .i64 co)
    clear hA9 hB9 hO9 hp9 hF9
    go_wp2
    refine bodyPost_ret (on_res hA10 rfl) rfl ?_
    have hr:=HRES.out
    have hoo:=HOUT.out
    have hev:=HEV.out
    have htg:=HT.out
    subst hoo
    subst hr
    subst hev
    subst htg
    exact ⟨⟨_,rfl,_,rfl,(hO10.rd kp_set).low kp_set (by omega)⟩,hp10,hF10⟩
 | true=>
  simp only [hif,skR_yes hif] at hS
  rw [hif,if_pos rfl] at hRES
  have hXp:=fun w1 (hp:Pr w1 X a cap ws fin (takeR fin wIf r1))=>expr_any hp hk
  generalize takeR fin wIf r1=r2 at *
  obtain ⟨⟨gx,rg⟩,hgx⟩:∃ y,exprR fin r2=y:=⟨_,rfl⟩
  simp only [hgx] at hXp hRES
  have hgf:=exX_form gx
  obtain ⟨gv,hgv⟩:∃ gv,exX gx=gv:=⟨_,rfl⟩
  simp only [hgv] at hXp hgf
  have HGV:Hid (exX gx=gv):=hgv
  clear hgx hgv hif
  rcases hgf with rfl | ⟨gu,gy,rfl⟩
  ·go_enter Tryz.func107,Tryz.ntmps107
   go_upto_region 2 with fail
   generalize (w.alloc zO6).alloc zO6=w0 at *
   go_upto_region 3 with (first
    | (go_at_call 72;refine hN.mono ?_;rintro e w1 ⟨rfl,hp1,hf1⟩;have hA1:=hA0.fx hf1 (by omega);have hB1:=hB0.fx hf1 (by omega);have hF1:=hF0.trans hf1;obtain ⟨b0,g0⟩:=hB1 0 _ rfl;obtain ⟨b4,g4⟩:=hB1 4 _ rfl;obtain ⟨b5,g5⟩:=hB1 5 _ rfl))
   have hA2:=((hA1.far (X:=w.heap.size+1) (i:=0) (by omega) (.string ev)).far (X:=w.heap.size+1) (i:=4) (by omega) (.int .i64 ln)).far (X:=w.heap.size+1) (i:=5) (by omega) (.int .i64 co)
   have hB2:=((hB1.set (i:=0) (by simp) (.string ev)).set (i:=4) (by simp) (.int .i64 ln)).set (i:=5) (by simp) (.int .i64 co)
   have hp2:=((hp1.far (Y:=w.heap.size+1) (i:=0) (by omega) (.string ev)).far (Y:=w.heap.size+1) (i:=4) (by omega) (.int .i64 ln)).far (Y:=w.heap.size+1) (i:=5) (by omega) (.int .i64 co)
   have hF2:=((hF1.setN (N:=w.heap.size+1) (i:=0) (by omega) (.string ev)).setN (N:=w.heap.size+1) (i:=4) (by omega) (.int .i64 ln)).setN (N:=w.heap.size+1) (i:=5) (by omega) (.int .i64 co)
   have hs2:w.heap.size+2≤(((w1.setCell ⟨w.heap.size+1,0,none⟩ (.string ev)).setCell ⟨w.heap.size+1,4,none⟩ (.int .i64 ln)).setCell ⟨w.heap.size+1,5,none⟩ (.int .i64 co)).heap.size:=by simpa using Nat.le_trans hs0 hf1.size
   clear hA0 hB0 hA1 hB1 hp1 hf1 hF1 hF0 b0 g0 b4 g4 b5 g5 hp0 hN hs0
   generalize ((w1.setCell ⟨w.heap.size+1,0,none⟩ (.string ev)).setCell ⟨w.heap.size+1,4,none⟩ (.int .i64 ln)).setCell ⟨w.heap.size+1,5,none⟩ (.int .i64 co)=w2 at *
   go_upto_region 4 with (first
    | (go_at_call 74;refine (hS _ hp2).mono ?_;rintro e w3 ⟨rfl,hp3,hf3⟩))
   have hA3:=hA2.fx hf3 (by omega)
   have hB3:=hB2.fx hf3 (by omega)
   have hF3:=hF2.trans hf3
   have hs3:=Nat.le_trans hs2 hf3.size
   clear hA2 hB2 hp2 hF2 hf3 hs2 hS
   go_upto_region 5 with (first
    | (go_at_call 118;refine (hXp _ hp3).mono ?_;rintro e w4 ⟨rfl,hp4,hf4⟩;have hA4:=hA3.fx hf4 (by omega);have hB4:=hB3.fx hf4 (by omega);have hF4:=hF3.trans hf4;have hs4:=Nat.le_trans hs3 hf4.size;obtain ⟨b1,g1⟩:=hB4 1 _ rfl))
   have hA5:=hA4.far (X:=w.heap.size+1) (i:=1) (by omega) .nilIface
   have hB5:Bn (w4.setCell ⟨w.heap.size+1,1,none⟩ .nilIface) (w.heap.size+1) [.string ev,.nilIface,.string ⟨#[]⟩,.slice none 0 0,.int .i64 ln,.int .i64 co]:=hB4.set (i:=1) (by simp) .nilIface
   have hp5:=hp4.far (Y:=w.heap.size+1) (i:=1) (by omega) .nilIface
   have hF5:=hF4.setN (N:=w.heap.size+1) (i:=1) (by omega) .nilIface
   have hs5:w.heap.size+2≤(w4.setCell ⟨w.heap.size+1,1,none⟩ .nilIface).heap.size:=by simpa using hs4
   clear hA3 hB3 hp3 hF3 hA4 hB4 hp4 hF4 hf4 hs3 hs4 b1 g1 hXp
   generalize w4.setCell ⟨w.heap.size+1,1,none⟩ .nilIface=w5 at *
   have hM1:=hM _ _ hp5
   have hN3:=fun w1 (hp:Pr w1 X a cap ws fin (takeR fin wGo rg))=>hN2 w1 _ hp
   generalize takeR fin wGo rg=r3 at *
   obtain ⟨⟨⟨tn,tl,tc⟩,r4⟩,hR4⟩:∃ x,nameR fin r3=x:=⟨_,rfl⟩
   simp only [hR4] at hN3 hRES
   obtain ⟨tg,htg⟩:∃ nv,(⟨tn.toArray⟩:ByteArray)=nv:=⟨_,rfl⟩
   simp only [htg] at hN3
   obtain ⟨OUT,hOUT⟩:∃ o,setsR fin (r4.1.length+1) [] r4=o:=⟨_,rfl⟩
   rw [hOUT] at hRES
   have HO:Hid (setsR fin (r4.1.length+1) [] r4=OUT):=hOUT
   have HT:Hid ((⟨tn.toArray⟩:ByteArray)=tg):=htg
   have HRES:Hid (((nm,(true,gx),tn,OUT.1,(ln,co)),OUT.2)=RES):=hRES
   clear hR4 htg hOUT hRES
   go_upto_region 6 with (first
    | (go_at_call 71;refine hM1.mono ?_;rintro e w6 ⟨⟨u,rfl⟩,hp6,hf6⟩))
   have hA6:=hA5.fx hf6 (by omega)
   have hB6:=hB5.fx hf6 (by omega)
   have hF6:=hF5.trans hf6
   have hs6:=Nat.le_trans hs5 hf6.size
   clear hA5 hB5 hp5 hF5 hf6 hs5 hM hM1
   go_upto_region 7 with (first
    | (go_at_call 72;refine (hN3 _ hp6).mono ?_;rintro e w7 ⟨rfl,hp7,hf7⟩;have hA7:=hA6.fx hf7 (by omega);have hB7:=hB6.fx hf7 (by omega);have hF7:=hF6.trans hf7;have hs7:=Nat.le_trans hs6 hf7.size;obtain ⟨b2,g2⟩:=hB7 2 _ rfl))
   have hA8:=hA7.far (X:=w.heap.size+1) (i:=2) (by omega) (.string tg)
   have hB8:Bn (w7.setCell ⟨w.heap.size+1,2,none⟩ (.string tg)) (w.heap.size+1) [.string ev,.nilIface,.string tg,.slice none 0 0,.int .i64 ln,.int .i64 co]:=hB7.set (i:=2) (by simp) (.string tg)
   have hp8:=hp7.far (Y:=w.heap.size+1) (i:=2) (by omega) (.string tg)
   have hF8:=hF7.setN (N:=w.heap.size+1) (i:=2) (by omega) (.string tg)
   have hs8:w.heap.size+2≤(w7.setCell ⟨w.heap.size+1,2,none⟩ (.string tg)).heap.size:=by simpa using hs7
   clear hA6 hB6 hp6 hF6 hA7 hB7 hp7 hF7 hf7 hs6 hs7 b2 g2 hN3 hN2
   generalize w7.setCell ⟨w.heap.size+1,2,none⟩ (.string tg)=w8 at *
   have hl4:=hp8.len
   go_loopw [] (fun wr=>∃ (g:Nat) (acc:List (List UInt8 × Sx)) (q:RsC) (slv:Value),Pr wr X a cap ws fin q∧Hid (setsR fin g acc q=OUT)∧q.1.length < g∧acc.length+q.1.length≤3000∧Bn wr (w.heap.size+1) [.string ev,.nilIface,.string tg,slv,.int .i64 ln,.int .i64 co]∧OwnK wr (w.heap.size+2) 82 2 rSet slv acc∧Bn wr w.heap.size zOl∧Fx X w wr∧w.heap.size+2≤wr.heap.size) (fun wr=>ws.length - nxt wr X)
   case atStart=>exact ⟨_,[],r4,_,hp8,HO,Nat.lt_succ_self _,by simp;omega,hB8,ownK_nil _ _ _ _ _,hA8,hF8,hs8⟩
   case round=>
    clear hA8 hB8 hp8 hF8 hs8 HO
    obtain ⟨g,acc,q,slv,hp,ho,hgl,hal,hB,hO,hA,hF,hsz⟩:=hrel
    obtain ⟨g',rfl⟩:∃ g',g=g'+1:=⟨g - 1,by omega⟩
    have hm1:=hp.left
    obtain ⟨va,vc,rfl,hvl,hvm⟩:=hO.form
    have hQ1:=hQ _ _ hp
    cases hi1:isC wSet q with
    | true=>
     rw [hi1,skR_yes hi1] at hQ1
     have hout:=ho.out
     rw [sets_yes hi1] at hout
     have hT1:=fun w1 (hp:Pr w1 X a cap ws fin (takeR fin wSet q))=>hT w1 _ hp
     have hgo:=(goes_set fin (takeR fin wSet q)).1
     have hlt:=takeR_less fin hi1
     generalize takeR fin wSet q=q1 at *
     obtain ⟨⟨s1,q2⟩,hS1⟩:∃ x,setR fin q1=x:=⟨_,rfl⟩
     simp only [hS1] at hT1 hout hgo
     have HOUT:Hid (setsR fin g' (acc++[s1]) q2=OUT):=hout
     have hxf:=exX_form s1.2
     have hcel:∀ (w:World) (lo:Nat),rSet (fun b=>lo≤b) w s1 [sV s1.1,exX s1.2]:=fun _ _=>rfl
     obtain ⟨xv,hxv⟩:∃ xv,exX s1.2=xv:=⟨_,rfl⟩
     simp only [hxv] at hT1 hxf hcel
     unfold sV at hT1 hcel
     obtain ⟨sn,hsn⟩:∃ nv,(⟨s1.1.toArray⟩:ByteArray)=nv:=⟨_,rfl⟩
     simp only [hsn] at hT1 hcel
     have HC:Hid (∀ (w:World) (lo:Nat),rSet (fun b=>lo≤b) w s1 [.string sn,xv]):=hcel
     clear hS1 hout hxv hsn hcel ho
     go_upto_region 8 with (first
      | (go_at_call 74;refine hQ1.mono ?_;rintro e w9 ⟨rfl,hp9,hf9⟩))
     have hB9:=hB.fx hf9 (by omega)
     have hA9:=hA.fx hf9 (by omega)
     have hO9:=hO.fx kp_set hf9 (by omega)
     have hF9:=hF.trans hf9
     have hs9:=Nat.le_trans hsz hf9.size
     have hp9d:=hp9.on ((Below.refl w9.heap.size w9).drew)
     clear hB hA hO hF hf9 hsz hp hQ1 hp9
     obtain ⟨k3,z3⟩:=hB9 3 _ rfl
     rcases hxf with rfl | ⟨xu,xy,rfl⟩
     ·go_region_law (first
       | (refine step_push wa rfl _ _ 77 rfl (w.heap.size+2) 82 i0 (.agg #[.string ⟨#[]⟩,.nilIface]) 2 32 Tryz.underlying77 hi hz0 hz1 hz2 rfl kp_set (.slice va acc.length vc) acc s1 [.string sn,.nilIface] wa.heap.size rfl rfl rfl (by simp [Value.oneCell']) hOa (HC.out _ _) hsa (fun x hx=>by obtain ⟨qs,hoq,_⟩:=hOa;exact (ownsRow_lt hoq x hx).2) (by omega) (by unfold maxLen;omega) hsa ?_;intro vb wb hOb hgb hbb;have hBb:=hBa.blk (hbb.block _ (by omega));have hAb:=hAa.blk (hbb.block _ (by omega));have hpb:=hpa.belowB hbb (by omega);have hFb:=hFa.andB hbb (by omega);obtain ⟨m5,n5⟩:=hBb 3 _ rfl;obtain ⟨vba,vbc,hvb,hvbl,hvbm⟩:=hOb.form;rw [List.length_append,List.length_singleton] at hvb;subst hvb)
       | (go_simp;(with_reducible refine (hT1 _ hp9d).mono ?_);rintro e wa ⟨rfl,hpa,hfa⟩;have hfa':=((Fx.refl X w9).drew).trans hfa;have hBa:=hB9.fx hfa' (by omega);have hAa:=hA9.fx hfa' (by omega);have hOa:=hO9.fx kp_set hfa' (by omega);have hFa:=hF9.trans hfa';have hsa:=Nat.le_trans hs9 hfa'.size;obtain ⟨m3,n3⟩:=hBa 3 _ rfl;have hali:=(Below.refl wa.heap.size wa).alloc (Nat.le_refl _) (.cells #[.string sn,.nilIface] 82);have m4:=((hBa.on hali) 3 _ rfl).1))
      all_goals (
       have hBc:=hBb.set (i:=3) (by simp) (.slice vba (acc.length+1) vbc)
       have hAc:=hAb.far (X:=w.heap.size+1) (i:=3) (by omega) (.slice vba (acc.length+1) vbc)
       have hOc:=hOb.set kp_set (X:=w.heap.size+1) (i:=3) (by omega) (.slice vba (acc.length+1) vbc)
       have hpc:=hpb.far (Y:=w.heap.size+1) (i:=3) (by omega) (.slice vba (acc.length+1) vbc)
       have hFc:=hFb.setN (N:=w.heap.size+1) (i:=3) (by omega) (.slice vba (acc.length+1) vbc)
       have hsc:w.heap.size+2≤(wb.setCell ⟨w.heap.size+1,3,none⟩ (.slice vba (acc.length+1) vbc)).heap.size:=by simpa using Nat.le_trans hsa hbb.size
       have hm2:=hpc.left
       have hlc:(acc++[s1]).length=acc.length+1:=by simp
       clear hBa hAa hOa hpa hFa hfa hfa' hsa m3 n3 hali m4 hBb hAb hOb hpb hFb hgb hbb k3 z3
       go_wp2
       go_roundw
       case rel=>exact ⟨g',acc++[s1],q2,_,hpc,HOUT,by omega,by omega,hBc,hOc,hAc,hFc,hsc⟩
       case measure=>omega)
     ·go_region_law (first
       | (refine step_push wa rfl _ _ 77 rfl (w.heap.size+2) 82 i0 (.agg #[.string ⟨#[]⟩,.nilIface]) 2 32 Tryz.underlying77 hi hz0 hz1 hz2 rfl kp_set (.slice va acc.length vc) acc s1 [.string sn,(.iface xu xy)] wa.heap.size rfl rfl rfl (by simp [Value.oneCell']) hOa (HC.out _ _) hsa (fun x hx=>by obtain ⟨qs,hoq,_⟩:=hOa;exact (ownsRow_lt hoq x hx).2) (by omega) (by unfold maxLen;omega) hsa ?_;intro vb wb hOb hgb hbb;have hBb:=hBa.blk (hbb.block _ (by omega));have hAb:=hAa.blk (hbb.block _ (by omega));have hpb:=hpa.belowB hbb (by omega);have hFb:=hFa.andB hbb (by omega);obtain ⟨m5,n5⟩:=hBb 3 _ rfl;obtain ⟨vba,vbc,hvb,hvbl,hvbm⟩:=hOb.form;rw [List.length_append,List.length_singleton] at hvb;subst hvb)
       | (go_simp;(with_reducible refine (hT1 _ hp9d).mono ?_);rintro e wa ⟨rfl,hpa,hfa⟩;have hfa':=((Fx.refl X w9).drew).trans hfa;have hBa:=hB9.fx hfa' (by omega);have hAa:=hA9.fx hfa' (by omega);have hOa:=hO9.fx kp_set hfa' (by omega);have hFa:=hF9.trans hfa';have hsa:=Nat.le_trans hs9 hfa'.size;obtain ⟨m3,n3⟩:=hBa 3 _ rfl;have hali:=(Below.refl wa.heap.size wa).alloc (Nat.le_refl _) (.cells #[.string sn,(.iface xu xy)] 82);have m4:=((hBa.on hali) 3 _ rfl).1))
      all_goals (
       have hBc:=hBb.set (i:=3) (by simp) (.slice vba (acc.length+1) vbc)
       have hAc:=hAb.far (X:=w.heap.size+1) (i:=3) (by omega) (.slice vba (acc.length+1) vbc)
       have hOc:=hOb.set kp_set (X:=w.heap.size+1) (i:=3) (by omega) (.slice vba (acc.length+1) vbc)
       have hpc:=hpb.far (Y:=w.heap.size+1) (i:=3) (by omega) (.slice vba (acc.length+1) vbc)
       have hFc:=hFb.setN (N:=w.heap.size+1) (i:=3) (by omega) (.slice vba (acc.length+1) vbc)
       have hsc:w.heap.size+2≤(wb.setCell ⟨w.heap.size+1,3,none⟩ (.slice vba (acc.length+1) vbc)).heap.size:=by simpa using Nat.le_trans hsa hbb.size
       have hm2:=hpc.left
       have hlc:(acc++[s1]).length=acc.length+1:=by simp
       clear hBa hAa hOa hpa hFa hfa hfa' hsa m3 n3 hali m4 hBb hAb hOb hpb hFb hgb hbb k3 z3
       go_wp2
       go_roundw
       case rel=>exact ⟨g',acc++[s1],q2,_,hpc,HOUT,by omega,by omega,hBc,hOc,hAc,hFc,hsc⟩
       case measure=>omega)
    | false=>
     rw [hi1,skR_no hi1] at hQ1
     have hout:=ho.out
     rw [sets_no hi1] at hout
     have HOUT:Hid ((acc,q)=OUT):=hout
     clear hout ho
     go_upto_region 9 with (first
      | (go_at_call 74;refine hQ1.mono ?_;rintro e w9 ⟨rfl,hp9,hf9⟩))
     have hB9:=hB.fx hf9 (by omega)
     have hA9:=hA.fx hf9 (by omega)
     have hO9:=hO.fx kp_set hf9 (by omega)
     have hF9:=hF.trans hf9
     clear hB hA hO hF hf9 hsz hp hQ1
     obtain ⟨b0,g0⟩:=hB9 0 _ rfl
     obtain ⟨b1,g1⟩:=hB9 1 _ rfl
     obtain ⟨b2,g2⟩:=hB9 2 _ rfl
     obtain ⟨b3,g3⟩:=hB9 3 _ rfl
     obtain ⟨b4,g4⟩:=hB9 4 _ rfl
     obtain ⟨b5,g5⟩:=hB9 5 _ rfl
     obtain ⟨a0,k0⟩:=hA9 0 _ rfl
     obtain ⟨a1,k1⟩:=hA9 1 _ rfl
     obtain ⟨a2,k2⟩:=hA9 2 _ rfl
     obtain ⟨a3,k3⟩:=hA9 3 _ rfl
     obtain ⟨a4,k4⟩:=hA9 4 _ rfl
     obtain ⟨a5,k5⟩:=hA9 5 _ rfl
     have hA10:=(((((hA9.set (i:=0) (by simp) (.string ev)).set (i:=1) (by simp) .nilIface).set (i:=2) (by simp) (.string tg)).set (i:=3) (by simp) (.slice va acc.length vc)).set (i:=4) (by simp) (.int .i64 ln)).set (i:=5) (by simp) (.int .i64 co)
     have hO10:=(((((hO9.set kp_set (X:=w.heap.size) (i:=0) (by omega) (.string ev)).set kp_set (X:=w.heap.size) (i:=1) (by omega) .nilIface).set kp_set (X:=w.heap.size) (i:=2) (by omega) (.string tg)).set kp_set (X:=w.heap.size) (i:=3) (by omega) (.slice va acc.length vc)).set kp_set (X:=w.heap.size) (i:=4) (by omega) (.int .i64 ln)).set kp_set (X:=w.heap.size) (i:=5) (by omega) (.int .i64 co)
     have hp10:=(((((hp9.far (i:=0) hX (.string ev)).far (i:=1) hX .nilIface).far (i:=2) hX (.string tg)).far (i:=3) hX (.slice va acc.length vc)).far (i:=4) hX (.int .i64 ln)).far (i:=5) hX (.int .i64 co)
     have hF10:=(((((hF9.setN (i:=0) (Nat.le_refl _) (.string ev)).setN (i:=1) (Nat.le_refl _) .nilIface).setN (i:=2) (Nat.le_refl _) (.string tg)).setN (i:=3) (Nat.le_refl _) (.slice va acc.length vc)).setN (i:=4) (Nat.le_refl _) (.int .i64 ln)).setN (i:=5) (Nat.le_refl _) (.int .i64 co)
     clear hA9 hB9 hO9 hp9 hF9
     go_wp2
     refine bodyPost_ret (on_res hA10 rfl) rfl ?_
     have hr:=HRES.out
     have hoo:=HOUT.out
     have hev:=HEV.out
     have htg:=HT.out
     subst hoo
     subst hr
     subst hev
     subst htg
     have hgg:=HGV.out
     exact ⟨⟨_,rfl,_,by simp [onV,gdV,sV,hgg],(hO10.rd kp_set).low kp_set (by omega)⟩,hp10,hF10⟩
  ·go_enter Tryz.func107,Tryz.ntmps107
   go_upto_region 2 with fail
   generalize (w.alloc zO6).alloc zO6=w0 at *
   go_upto_region 3 with (first
    | (go_at_call 72;refine hN.mono ?_;rintro e w1 ⟨rfl,hp1,hf1⟩;have hA1:=hA0.fx hf1 (by omega);have hB1:=hB0.fx hf1 (by omega);have hF1:=hF0.trans hf1;obtain ⟨b0,g0⟩:=hB1 0 _ rfl;obtain ⟨b4,g4⟩:=hB1 4 _ rfl;obtain ⟨b5,g5⟩:=hB1 5 _ rfl))
   have hA2:=((hA1.far (X:=w.heap.size+1) (i:=0) (by omega) (.string ev)).far (X:=w.heap.size+1) (i:=4) (by omega) (.int .i64 ln)).far (X:=w.heap.size+1) (i:=5) (by omega) (.int .i64 co)
   have hB2:=((hB1.set (i:=0) (by simp) (.string ev)).set (i:=4) (by simp) (.int .i64 ln)).set (i:=5) (by simp) (.int .i64 co)
   have hp2:=((hp1.far (Y:=w.heap.size+1) (i:=0) (by omega) (.string ev)).far (Y:=w.heap.size+1) (i:=4) (by omega) (.int .i64 ln)).far (Y:=w.heap.size+1) (i:=5) (by omega) (.int .i64 co)
   have hF2:=((hF1.setN (N:=w.heap.size+1) (i:=0) (by omega) (.string ev)).setN (N:=w.heap.size+1) (i:=4) (by omega) (.int .i64 ln)).setN (N:=w.heap.size+1) (i:=5) (by omega) (.int .i64 co)
   have hs2:w.heap.size+2≤(((w1.setCell ⟨w.heap.size+1,0,none⟩ (.string ev)).setCell ⟨w.heap.size+1,4,none⟩ (.int .i64 ln)).setCell ⟨w.heap.size+1,5,none⟩ (.int .i64 co)).heap.size:=by simpa using Nat.le_trans hs0 hf1.size
   clear hA0 hB0 hA1 hB1 hp1 hf1 hF1 hF0 b0 g0 b4 g4 b5 g5 hp0 hN hs0
   generalize ((w1.setCell ⟨w.heap.size+1,0,none⟩ (.string ev)).setCell ⟨w.heap.size+1,4,none⟩ (.int .i64 ln)).setCell ⟨w.heap.size+1,5,none⟩ (.int .i64 co)=w2 at *
   go_upto_region 4 with (first
    | (go_at_call 74;refine (hS _ hp2).mono ?_;rintro e w3 ⟨rfl,hp3,hf3⟩))
   have hA3:=hA2.fx hf3 (by omega)
   have hB3:=hB2.fx hf3 (by omega)
   have hF3:=hF2.trans hf3
   have hs3:=Nat.le_trans hs2 hf3.size
   clear hA2 hB2 hp2 hF2 hf3 hs2 hS
   go_upto_region 5 with (first
    | (go_at_call 118;refine (hXp _ hp3).mono ?_;rintro e w4 ⟨rfl,hp4,hf4⟩;have hA4:=hA3.fx hf4 (by omega);have hB4:=hB3.fx hf4 (by omega);have hF4:=hF3.trans hf4;have hs4:=Nat.le_trans hs3 hf4.size;obtain ⟨b1,g1⟩:=hB4 1 _ rfl))
   have hA5:=hA4.far (X:=w.heap.size+1) (i:=1) (by omega) (.iface gu gy)
   have hB5:Bn (w4.setCell ⟨w.heap.size+1,1,none⟩ (.iface gu gy)) (w.heap.size+1) [.string ev,(.iface gu gy),.string ⟨#[]⟩,.slice none 0 0,.int .i64 ln,.int .i64 co]:=hB4.set (i:=1) (by simp) (.iface gu gy)
   have hp5:=hp4.far (Y:=w.heap.size+1) (i:=1) (by omega) (.iface gu gy)
   have hF5:=hF4.setN (N:=w.heap.size+1) (i:=1) (by omega) (.iface gu gy)
   have hs5:w.heap.size+2≤(w4.setCell ⟨w.heap.size+1,1,none⟩ (.iface gu gy)).heap.size:=by simpa using hs4
   clear hA3 hB3 hp3 hF3 hA4 hB4 hp4 hF4 hf4 hs3 hs4 b1 g1 hXp
   generalize w4.setCell ⟨w.heap.size+1,1,none⟩ (.iface gu gy)=w5 at *
   have hM1:=hM _ _ hp5
   have hN3:=fun w1 (hp:Pr w1 X a cap ws fin (takeR fin wGo rg))=>hN2 w1 _ hp
   generalize takeR fin wGo rg=r3 at *
   obtain ⟨⟨⟨tn,tl,tc⟩,r4⟩,hR4⟩:∃ x,nameR fin r3=x:=⟨_,rfl⟩
   simp only [hR4] at hN3 hRES
   obtain ⟨tg,htg⟩:∃ nv,(⟨tn.toArray⟩:ByteArray)=nv:=⟨_,rfl⟩
   simp only [htg] at hN3
   obtain ⟨OUT,hOUT⟩:∃ o,setsR fin (r4.1.length+1) [] r4=o:=⟨_,rfl⟩
   rw [hOUT] at hRES
   have HO:Hid (setsR fin (r4.1.length+1) [] r4=OUT):=hOUT
   have HT:Hid ((⟨tn.toArray⟩:ByteArray)=tg):=htg
   have HRES:Hid (((nm,(true,gx),tn,OUT.1,(ln,co)),OUT.2)=RES):=hRES
   clear hR4 htg hOUT hRES
   go_upto_region 6 with (first
    | (go_at_call 71;refine hM1.mono ?_;rintro e w6 ⟨⟨u,rfl⟩,hp6,hf6⟩))
   have hA6:=hA5.fx hf6 (by omega)
   have hB6:=hB5.fx hf6 (by omega)
   have hF6:=hF5.trans hf6
   have hs6:=Nat.le_trans hs5 hf6.size
   clear hA5 hB5 hp5 hF5 hf6 hs5 hM hM1
   go_upto_region 7 with (first
    | (go_at_call 72;refine (hN3 _ hp6).mono ?_;rintro e w7 ⟨rfl,hp7,hf7⟩;have hA7:=hA6.fx hf7 (by omega);have hB7:=hB6.fx hf7 (by omega);have hF7:=hF6.trans hf7;have hs7:=Nat.le_trans hs6 hf7.size;obtain ⟨b2,g2⟩:=hB7 2 _ rfl))
   have hA8:=hA7.far (X:=w.heap.size+1) (i:=2) (by omega) (.string tg)
   have hB8:Bn (w7.setCell ⟨w.heap.size+1,2,none⟩ (.string tg)) (w.heap.size+1) [.string ev,(.iface gu gy),.string tg,.slice none 0 0,.int .i64 ln,.int .i64 co]:=hB7.set (i:=2) (by simp) (.string tg)
   have hp8:=hp7.far (Y:=w.heap.size+1) (i:=2) (by omega) (.string tg)
   have hF8:=hF7.setN (N:=w.heap.size+1) (i:=2) (by omega) (.string tg)
   have hs8:w.heap.size+2≤(w7.setCell ⟨w.heap.size+1,2,none⟩ (.string tg)).heap.size:=by simpa using hs7
   clear hA6 hB6 hp6 hF6 hA7 hB7 hp7 hF7 hf7 hs6 hs7 b2 g2 hN3 hN2
   generalize w7.setCell ⟨w.heap.size+1,2,none⟩ (.string tg)=w8 at *
   have hl4:=hp8.len
   go_loopw [] (fun wr=>∃ (g:Nat) (acc:List (List UInt8 × Sx)) (q:RsC) (slv:Value),Pr wr X a cap ws fin q∧Hid (setsR fin g acc q=OUT)∧q.1.length < g∧acc.length+q.1.length≤3000∧Bn wr (w.heap.size+1) [.string ev,(.iface gu gy),.string tg,slv,.int .i64 ln,.int .i64 co]∧OwnK wr (w.heap.size+2) 82 2 rSet slv acc∧Bn wr w.heap.size zOl∧Fx X w wr∧w.heap.size+2≤wr.heap.size) (fun wr=>ws.length - nxt wr X)
   case atStart=>exact ⟨_,[],r4,_,hp8,HO,Nat.lt_succ_self _,by simp;omega,hB8,ownK_nil _ _ _ _ _,hA8,hF8,hs8⟩
   case round=>
    clear hA8 hB8 hp8 hF8 hs8 HO
    obtain ⟨g,acc,q,slv,hp,ho,hgl,hal,hB,hO,hA,hF,hsz⟩:=hrel
    obtain ⟨g',rfl⟩:∃ g',g=g'+1:=⟨g - 1,by omega⟩
    have hm1:=hp.left
    obtain ⟨va,vc,rfl,hvl,hvm⟩:=hO.form
    have hQ1:=hQ _ _ hp
    cases hi1:isC wSet q with
    | true=>
     rw [hi1,skR_yes hi1] at hQ1
     have hout:=ho.out
     rw [sets_yes hi1] at hout
     have hT1:=fun w1 (hp:Pr w1 X a cap ws fin (takeR fin wSet q))=>hT w1 _ hp
     have hgo:=(goes_set fin (takeR fin wSet q)).1
     have hlt:=takeR_less fin hi1
     generalize takeR fin wSet q=q1 at *
     obtain ⟨⟨s1,q2⟩,hS1⟩:∃ x,setR fin q1=x:=⟨_,rfl⟩
     simp only [hS1] at hT1 hout hgo
     have HOUT:Hid (setsR fin g' (acc++[s1]) q2=OUT):=hout
     have hxf:=exX_form s1.2
     have hcel:∀ (w:World) (lo:Nat),rSet (fun b=>lo≤b) w s1 [sV s1.1,exX s1.2]:=fun _ _=>rfl
     obtain ⟨xv,hxv⟩:∃ xv,exX s1.2=xv:=⟨_,rfl⟩
     simp only [hxv] at hT1 hxf hcel
     unfold sV at hT1 hcel
     obtain ⟨sn,hsn⟩:∃ nv,(⟨s1.1.toArray⟩:ByteArray)=nv:=⟨_,rfl⟩
     simp only [hsn] at hT1 hcel
     have HC:Hid (∀ (w:World) (lo:Nat),rSet (fun b=>lo≤b) w s1 [.string sn,xv]):=hcel
     clear hS1 hout hxv hsn hcel ho
     go_upto_region 8 with (first
      | (go_at_call 74;refine hQ1.mono ?_;rintro e w9 ⟨rfl,hp9,hf9⟩))
     have hB9:=hB.fx hf9 (by omega)
     have hA9:=hA.fx hf9 (by omega)
     have hO9:=hO.fx kp_set hf9 (by omega)
     have hF9:=hF.trans hf9
     have hs9:=Nat.le_trans hsz hf9.size
     have hp9d:=hp9.on ((Below.refl w9.heap.size w9).drew)
     clear hB hA hO hF hf9 hsz hp hQ1 hp9
     obtain ⟨k3,z3⟩:=hB9 3 _ rfl
     rcases hxf with rfl | ⟨xu,xy,rfl⟩
     ·go_region_law (first
       | (refine step_push wa rfl _ _ 77 rfl (w.heap.size+2) 82 i0 (.agg #[.string ⟨#[]⟩,.nilIface]) 2 32 Tryz.underlying77 hi hz0 hz1 hz2 rfl kp_set (.slice va acc.length vc) acc s1 [.string sn,.nilIface] wa.heap.size rfl rfl rfl (by simp [Value.oneCell']) hOa (HC.out _ _) hsa (fun x hx=>by obtain ⟨qs,hoq,_⟩:=hOa;exact (ownsRow_lt hoq x hx).2) (by omega) (by unfold maxLen;omega) hsa ?_;intro vb wb hOb hgb hbb;have hBb:=hBa.blk (hbb.block _ (by omega));have hAb:=hAa.blk (hbb.block _ (by omega));have hpb:=hpa.belowB hbb (by omega);have hFb:=hFa.andB hbb (by omega);obtain ⟨m5,n5⟩:=hBb 3 _ rfl;obtain ⟨vba,vbc,hvb,hvbl,hvbm⟩:=hOb.form;rw [List.length_append,List.length_singleton] at hvb;subst hvb)
       | (go_simp;(with_reducible refine (hT1 _ hp9d).mono ?_);rintro e wa ⟨rfl,hpa,hfa⟩;have hfa':=((Fx.refl X w9).drew).trans hfa;have hBa:=hB9.fx hfa' (by omega);have hAa:=hA9.fx hfa' (by omega);have hOa:=hO9.fx kp_set hfa' (by omega);have hFa:=hF9.trans hfa';have hsa:=Nat.le_trans hs9 hfa'.size;obtain ⟨m3,n3⟩:=hBa 3 _ rfl;have hali:=(Below.refl wa.heap.size wa).alloc (Nat.le_refl _) (.cells #[.string sn,.nilIface] 82);have m4:=((hBa.on hali) 3 _ rfl).1))
      all_goals (
       have hBc:=hBb.set (i:=3) (by simp) (.slice vba (acc.length+1) vbc)
       have hAc:=hAb.far (X:=w.heap.size+1) (i:=3) (by omega) (.slice vba (acc.length+1) vbc)
       have hOc:=hOb.set kp_set (X:=w.heap.size+1) (i:=3) (by omega) (.slice vba (acc.length+1) vbc)
       have hpc:=hpb.far (Y:=w.heap.size+1) (i:=3) (by omega) (.slice vba (acc.length+1) vbc)
       have hFc:=hFb.setN (N:=w.heap.size+1) (i:=3) (by omega) (.slice vba (acc.length+1) vbc)
       have hsc:w.heap.size+2≤(wb.setCell ⟨w.heap.size+1,3,none⟩ (.slice vba (acc.length+1) vbc)).heap.size:=by simpa using Nat.le_trans hsa hbb.size
       have hm2:=hpc.left
       have hlc:(acc++[s1]).length=acc.length+1:=by simp
       clear hBa hAa hOa hpa hFa hfa hfa' hsa m3 n3 hali m4 hBb hAb hOb hpb hFb hgb hbb k3 z3
       go_wp2
       go_roundw
       case rel=>exact ⟨g',acc++[s1],q2,_,hpc,HOUT,by omega,by omega,hBc,hOc,hAc,hFc,hsc⟩
       case measure=>omega)
     ·go_region_law (first
       | (refine step_push wa rfl _ _ 77 rfl (w.heap.size+2) 82 i0 (.agg #[.string ⟨#[]⟩,.nilIface]) 2 32 Tryz.underlying77 hi hz0 hz1 hz2 rfl kp_set (.slice va acc.length vc) acc s1 [.string sn,(.iface xu xy)] wa.heap.size rfl rfl rfl (by simp [Value.oneCell']) hOa (HC.out _ _) hsa (fun x hx=>by obtain ⟨qs,hoq,_⟩:=hOa;exact (ownsRow_lt hoq x hx).2) (by omega) (by unfold maxLen;omega) hsa ?_;intro vb wb hOb hgb hbb;have hBb:=hBa.blk (hbb.block _ (by omega));have hAb:=hAa.blk (hbb.block _ (by omega));have hpb:=hpa.belowB hbb (by omega);have hFb:=hFa.andB hbb (by omega);obtain ⟨m5,n5⟩:=hBb 3 _ rfl;obtain ⟨vba,vbc,hvb,hvbl,hvbm⟩:=hOb.form;rw [List.length_append,List.length_singleton] at hvb;subst hvb)
       | (go_simp;(with_reducible refine (hT1 _ hp9d).mono ?_);rintro e wa ⟨rfl,hpa,hfa⟩;have hfa':=((Fx.refl X w9).drew).trans hfa;have hBa:=hB9.fx hfa' (by omega);have hAa:=hA9.fx hfa' (by omega);have hOa:=hO9.fx kp_set hfa' (by omega);have hFa:=hF9.trans hfa';have hsa:=Nat.le_trans hs9 hfa'.size;obtain ⟨m3,n3⟩:=hBa 3 _ rfl;have hali:=(Below.refl wa.heap.size wa).alloc (Nat.le_refl _) (.cells #[.string sn,(.iface xu xy)] 82);have m4:=((hBa.on hali) 3 _ rfl).1))
      all_goals (
       have hBc:=hBb.set (i:=3) (by simp) (.slice vba (acc.length+1) vbc)
       have hAc:=hAb.far (X:=w.heap.size+1) (i:=3) (by omega) (.slice vba (acc.length+1) vbc)
       have hOc:=hOb.set kp_set (X:=w.heap.size+1) (i:=3) (by omega) (.slice vba (acc.length+1) vbc)
       have hpc:=hpb.far (Y:=w.heap.size+1) (i:=3) (by omega) (.slice vba (acc.length+1) vbc)
       have hFc:=hFb.setN (N:=w.heap.size+1) (i:=3) (by omega) (.slice vba (acc.length+1) vbc)
       have hsc:w.heap.size+2≤(wb.setCell ⟨w.heap.size+1,3,none⟩ (.slice vba (acc.length+1) vbc)).heap.size:=by simpa using Nat.le_trans hsa hbb.size
       have hm2:=hpc.left
       have hlc:(acc++[s1]).length=acc.length+1:=by simp
       clear hBa hAa hOa hpa hFa hfa hfa' hsa m3 n3 hali m4 hBb hAb hOb hpb hFb hgb hbb k3 z3
       go_wp2
       go_roundw
       case rel=>exact ⟨g',acc++[s1],q2,_,hpc,HOUT,by omega,by omega,hBc,hOc,hAc,hFc,hsc⟩
       case measure=>omega)
    | false=>
     rw [hi1,skR_no hi1] at hQ1
     have hout:=ho.out
     rw [sets_no hi1] at hout
     have HOUT:Hid ((acc,q)=OUT):=hout
     clear hout ho
     go_upto_region 9 with (first
      | (go_at_call 74;refine hQ1.mono ?_;rintro e w9 ⟨rfl,hp9,hf9⟩))
     have hB9:=hB.fx hf9 (by omega)
     have hA9:=hA.fx hf9 (by omega)
     have hO9:=hO.fx kp_set hf9 (by omega)
     have hF9:=hF.trans hf9
     clear hB hA hO hF hf9 hsz hp hQ1
     obtain ⟨b0,g0⟩:=hB9 0 _ rfl
     obtain ⟨b1,g1⟩:=hB9 1 _ rfl
     obtain ⟨b2,g2⟩:=hB9 2 _ rfl
     obtain ⟨b3,g3⟩:=hB9 3 _ rfl
     obtain ⟨b4,g4⟩:=hB9 4 _ rfl
     obtain ⟨b5,g5⟩:=hB9 5 _ rfl
     obtain ⟨a0,k0⟩:=hA9 0 _ rfl
     obtain ⟨a1,k1⟩:=hA9 1 _ rfl
     obtain ⟨a2,k2⟩:=hA9 2 _ rfl
     obtain ⟨a3,k3⟩:=hA9 3 _ rfl
     obtain ⟨a4,k4⟩:=hA9 4 _ rfl
     obtain ⟨a5,k5⟩:=hA9 5 _ rfl
     have hA10:=(((((hA9.set (i:=0) (by simp) (.string ev)).set (i:=1) (by simp) (.iface gu gy)).set (i:=2) (by simp) (.string tg)).set (i:=3) (by simp) (.slice va acc.length vc)).set (i:=4) (by simp) (.int .i64 ln)).set (i:=5) (by simp) (.int .i64 co)
     have hO10:=(((((hO9.set kp_set (X:=w.heap.size) (i:=0) (by omega) (.string ev)).set kp_set (X:=w.heap.size) (i:=1) (by omega) (.iface gu gy)).set kp_set (X:=w.heap.size) (i:=2) (by omega) (.string tg)).set kp_set (X:=w.heap.size) (i:=3) (by omega) (.slice va acc.length vc)).set kp_set (X:=w.heap.size) (i:=4) (by omega) (.int .i64 ln)).set kp_set (X:=w.heap.size) (i:=5) (by omega) (.int .i64 co)
     have hp10:=(((((hp9.far (i:=0) hX (.string ev)).far (i:=1) hX (.iface gu gy)).far (i:=2) hX (.string tg)).far (i:=3) hX (.slice va acc.length vc)).far (i:=4) hX (.int .i64 ln)).far (i:=5) hX (.int .i64 co)
     have hF10:=(((((hF9.setN (i:=0) (Nat.le_refl _) (.string ev)).setN (i:=1) (Nat.le_refl _) (.iface gu gy)).setN (i:=2) (Nat.le_refl _) (.string tg)).setN (i:=3) (Nat.le_refl _) (.slice va acc.length vc)).setN (i:=4) (Nat.le_refl _) (.int .i64 ln)).setN (i:=5) (Nat.le_refl _) (.int .i64 co)
     clear hA9 hB9 hO9 hp9 hF9
     go_wp2
     refine bodyPost_ret (on_res hA10 rfl) rfl ?_
     have hr:=HRES.out
     have hoo:=HOUT.out
     have hev:=HEV.out
     have htg:=HT.out
     subst hoo
     subst hr
     subst hev
     subst htg
     have hgg:=HGV.out
     exact ⟨⟨_,rfl,_,by simp [onV,gdV,sV,hgg],(hO10.rd kp_set).low kp_set (by omega)⟩,hp10,hF10⟩
abbrev zT11:Obj:=.cells #[.string ⟨#[]⟩,.int .i64 0,.int .i64 0,.bool false,.bool false,.string ⟨#[]⟩,.string ⟨#[]⟩,.int .i64 0,.int .i64 0,.slice none 0 0,.slice none 0 0] 57
abbrev zTl:List Value:=[.string ⟨#[]⟩,.int .i64 0,.int .i64 0,.bool false,.bool false,.string ⟨#[]⟩,.string ⟨#[]⟩,.int .i64 0,.int .i64 0,.slice none 0 0,.slice none 0 0]
def erq (w:World) (X:Nat):Nat:=match w.cell? ⟨X,2,none⟩ with | some (.int _ n)=>(if n=0 then 1 else 0) | _=>0
theorem Pr.erq {w:World}{X:Nat}{a:Option Addr}{cap:Nat}{ws:List Wd}{fin:Pl}{r:RsC}(h:Pr w X a cap ws fin r):erq w X=if r.2.2=0 then 1 else 0:=by
 obtain ⟨n,h1,_⟩:=h
 unfold Go.Proofs.YtlgnahpfggagoaaGreatDoor.erq
 rw [h1.c2]
theorem state_res {w4:World}{R:Nat}{a b c d e f g h i j k:Value}{tmps:Array Value}(hR:Bn w4 R [a,b,c,d,e,f,g,h,i,j,k]) (ht:tmps.getD 4 undef=.pointer (some ⟨R,0,none⟩)):(results Tryz.f77 tmps).run Tryz.prog w4=.ok (.agg #[a,b,c,d,e,f,g,h,i,j,k]) w4:=by
 have ht':tmps[4]?.getD undef=.pointer (some ⟨R,0,none⟩):=by simpa using ht
 have c0:=(hR 0 _ rfl).1
 have c1:=(hR 1 _ rfl).1
 have c2:=(hR 2 _ rfl).1
 have c3:=(hR 3 _ rfl).1
 have c4:=(hR 4 _ rfl).1
 have c5:=(hR 5 _ rfl).1
 have c6:=(hR 6 _ rfl).1
 have c7:=(hR 7 _ rfl).1
 have c8:=(hR 8 _ rfl).1
 have c9:=(hR 9 _ rfl).1
 have c10:=(hR 10 _ rfl).1
 simp [results,Tryz.results77,go_sem,ht',c0,c1,c2,c3,c4,c5,c6,c7,c8,c9,c10]
/-- What is told of a state that lies k below the deepest. -/
def StC (k:Nat):Prop:=∀ (w:World) (X:Nat) (a:Option Addr) (cap:Nat) (ws:List Wd) (fin:Pl) (r:RsC) (dp:Int),dp+(k:Int)=7→Pr w X a cap ws fin r→Wk ws cap→Ey w X→
 Calls Tryz.prog 77 #[.pointer (some ⟨X,0,none⟩),.int .i64 dp] w fun e w'=>(∃ cs,e=.returned (.agg cs.toArray)∧rSt (k+1) (fun b=>w.heap.size≤b) w' (stP fin k r).1 cs)∧Pr w' X a cap ws fin (stP fin k r).2∧Fx X w w'
set_option maxRecDepth 100000 in
set_option maxHeartbeats 8000000 in
theorem state_zero:StC 0:=by
 intro w X a cap ws fin r dp hdp h hk hE
 have hdp7:dp=7:=by simpa using hdp
 subst hdp7
 have hX:=h.lt
 have hp0:=h.on ((Below.refl w.heap.size w).alloc (Nat.le_refl _) zT11)
 have hE0:=hE.on ((Below.refl w.heap.size w).alloc (Nat.le_refl _) zT11)
 have hA0:Bn (w.alloc zT11) w.heap.size zTl:=Bn.new w zTl 57 _ rfl
 have hF0:Fx X w (w.alloc zT11):=Fx.of ((Below.refl w.heap.size w).alloc (Nat.le_refl _) zT11) (Nat.le_refl _)
 have hs0:w.heap.size+1≤(w.alloc zT11).heap.size:=by simp
 obtain ⟨r0,hr0⟩:∃ r0,failC 13 (hereR fin r) r=r0:=⟨_,rfl⟩
 have hbad:r0.2.2≠0:=by rw [← hr0];exact failC_bad (by decide) _ _
 have hres:stP fin 0 r=((zHd,[]),r0):=by rw [← hr0];rfl
 rw [hres]
 obtain ⟨n,h1,h2,h3,h4⟩:=id hp0
 have hFl:=(pfail_any h1 13).mono (R':=fun x w'=>(∃ u,x=.returned u)∧Pr w' X a cap ws fin r0∧Fx X (w.alloc zT11) w') (fun e w' hh=>⟨hh.1,by rw [← hr0];exact Pr.bad hh.2.1 h2 h3 h4,hh.2.2⟩)
 have e1:(⟨wState.toArray⟩:ByteArray)=⟨#[115,116,97,116,101]⟩:=rfl
 have e2:(⟨wOn.toArray⟩:ByteArray)=⟨#[111,110]⟩:=rfl
 have hM:=fun w1 t (hp:Pr w1 X a cap ws fin r0)=>must_any hp hk t
 simp only [take_err hbad] at hM
 have hM1:=fun w1 hp=>hM w1 wState hp
 rw [e1] at hM1
 have hM2:=fun w1 hp=>hM w1 [123] hp
 have hM3:=fun w1 hp=>hM w1 [125] hp
 have hN:=fun w1 (hp:Pr w1 X a cap ws fin r0)=>pname_any hp hk
 simp only [name_err hbad] at hN
 have hK:=fun w1 Y (hp:Pr w1 X a cap ws fin r0) (he:Ey w1 X) (hXY:X < Y) (hB:Bn w1 Y (stV (.string ⟨#[]⟩) (.int .i64 0) (.int .i64 0) zK (.slice none 0 0) (.slice none 0 0)))=>kind_any hp hk he hXY hB
 simp only [kind_err hbad] at hK
 have hQ:=fun w1 (hp:Pr w1 X a cap ws fin r0)=>skips_any hp hk wOn
 rw [e2] at hQ
 simp only [is_err hbad,skR_no (is_err hbad wOn)] at hQ
 have hSe:=fun w1 (hp:Pr w1 X a cap ws fin r0)=>sees_any hp hk wState
 rw [e1] at hSe
 simp only [is_err hbad] at hSe
 clear hr0 hres h1 h2 h3 h4 hM h hE hbad
 unfold sV at hN
 go_enter Tryz.func77,Tryz.ntmps77
 go_upto_region 2 with fail
 generalize w.alloc zT11=w0 at *
 go_upto_region 3 with (first
  | (go_at_call 78;refine hFl.mono ?_;rintro e w1 ⟨⟨u,rfl⟩,hp1,hf1⟩))
 have hal:=(Below.refl w1.heap.size w1).alloc (Nat.le_refl _) zT11
 have hA2:=(hA0.fx hf1 (by omega)).on hal
 have hB2:Bn (w1.alloc zT11) w1.heap.size zTl:=Bn.new w1 zTl 57 _ rfl
 have hp2:=hp1.on hal
 have hE2:=(hE0.fx hf1).on hal
 have hF2:=(hF0.trans hf1).alloc zT11
 have hs2:w.heap.size+1≤w1.heap.size:=Nat.le_trans hs0 hf1.size
 obtain ⟨S,hS⟩:∃ S,w1.heap.size=S:=⟨_,rfl⟩
 go_upto_region 4 with fail
 rw [hS] at hB2 hs2
 generalize w1.alloc zT11=w2 at *
 clear hA0 hp0 hE0 hF0 hs0 hp1 hf1 hal hFl hS
 go_upto_region 5 with (first
  | (go_at_call 71;refine (hM1 _ hp2).mono ?_;rintro e w3 ⟨⟨u,rfl⟩,hp3,hf3⟩))
 have hA3:=hA2.fx hf3 (by omega)
 have hB3:=hB2.fx hf3 (by omega)
 have hE3:=hE2.fx hf3
 have hF3:=hF2.trans hf3
 clear hA2 hB2 hp2 hE2 hF2 hf3
 go_upto_region 6 with (first
  | (go_at_call 72;refine (hN _ hp3).mono ?_;rintro e w4 ⟨rfl,hp4,hf4⟩;have hA4:=hA3.fx hf4 (by omega);have hB4:=hB3.fx hf4 (by omega);obtain ⟨b0,g0⟩:=hB4 0 _ rfl;obtain ⟨b1,g1⟩:=hB4 1 _ rfl;obtain ⟨b2,g2⟩:=hB4 2 _ rfl))
 have hA5:=((hA4.far (X:=S) (i:=0) (by omega) (.string ⟨#[]⟩)).far (X:=S) (i:=1) (by omega) (.int .i64 0)).far (X:=S) (i:=2) (by omega) (.int .i64 0)
 have hB5:Bn _ S zTl:=((hB4.set (i:=0) (by simp) (.string ⟨#[]⟩)).set (i:=1) (by simp) (.int .i64 0)).set (i:=2) (by simp) (.int .i64 0)
 have hp5:=((hp4.far (Y:=S) (i:=0) (by omega) (.string ⟨#[]⟩)).far (Y:=S) (i:=1) (by omega) (.int .i64 0)).far (Y:=S) (i:=2) (by omega) (.int .i64 0)
 have hE5:=(((hE3.fx hf4).far (Y:=S) (i:=0) (by omega) (.string ⟨#[]⟩)).far (Y:=S) (i:=1) (by omega) (.int .i64 0)).far (Y:=S) (i:=2) (by omega) (.int .i64 0)
 have hF5:=(((hF3.trans hf4).setN (N:=S) (i:=0) (by omega) (.string ⟨#[]⟩)).setN (N:=S) (i:=1) (by omega) (.int .i64 0)).setN (N:=S) (i:=2) (by omega) (.int .i64 0)
 clear hA3 hB3 hp3 hE3 hF3 hA4 hB4 hp4 hf4 b0 g0 b1 g1 b2 g2
 generalize ((w4.setCell ⟨S,0,none⟩ (.string ⟨#[]⟩)).setCell ⟨S,1,none⟩ (.int .i64 0)).setCell ⟨S,2,none⟩ (.int .i64 0)=w5 at *
 go_upto_region 7 with (first
  | (go_at_call 71;refine (hM2 _ hp5).mono ?_;rintro e w6 ⟨⟨u,rfl⟩,hp6,hf6⟩))
 have hA6:=hA5.fx hf6 (by omega)
 have hB6:=hB5.fx hf6 (by omega)
 have hE6:=hE5.fx hf6
 have hF6:=hF5.trans hf6
 have hK6:=hK w6 S hp6 hE6 (by omega) hB6
 clear hA5 hB5 hp5 hE5 hF5 hf6 hK
 go_wp2_with (first
  | (go_at_call 106;refine hK6.mono ?_;rintro e w7 ⟨⟨u,rfl⟩,hp7,hB7,hf7⟩))
 have hA7:=hA6.fy hf7 (by omega) (by omega)
 have hF7:=hF6.andY hf7 (by omega)
 clear hA6 hB6 hp6 hE6 hF6 hf7 hK6
 go_loopw [] (fun wr=>Pr wr X a cap ws fin r0∧Bn wr S (stV (.string ⟨#[]⟩) (.int .i64 0) (.int .i64 0) zK (.slice none 0 0) (.slice none 0 0))∧Bn wr w.heap.size zTl∧Fx X w wr) (fun wr=>0)
 case atStart=>exact ⟨hp7,hB7,hA7,hF7⟩
 case round=>
  clear hp7 hB7 hA7 hF7
  obtain ⟨hp,hB,hA,hF⟩:=hrel
  have hXS:X < S:=by omega
  go_upto_region 12 with (first
   | (go_at_call 74;refine (hQ _ hp).mono ?_;rintro e w8 ⟨rfl,hp8,hf8⟩))
  go_upto_region 8 with (first
   | (go_at_call 76;refine (hSe _ hp8).mono ?_;rintro e w9 ⟨rfl,m9,rfl⟩))
  have hp9:=hp8.on (draws w8 m9)
  have hf9:=hf8.drewN m9
  have hB9:Bn (w8.drewN m9) S zTl:=Bn.fx (c:=.string ⟨#[]⟩) hB hf9 (by omega)
  have hA9:=hA.fx hf9 (by omega)
  have hF9:=hF.trans hf9
  clear hp8 hf8 hB hA hF hf9 hp
  generalize w8.drewN m9=w9 at *
  go_upto_region 9 with (first
   | (go_at_call 71;refine (hM3 _ hp9).mono ?_;rintro e wa ⟨⟨u,rfl⟩,hpa,hfa⟩))
  have hBa:=hB9.fx hfa (by omega)
  have hAa:=hA9.fx hfa (by omega)
  have hFa:=hF9.trans hfa
  clear hp9 hB9 hA9 hF9 hfa
  obtain ⟨b0,g0⟩:=hBa 0 _ rfl
  obtain ⟨b1,g1⟩:=hBa 1 _ rfl
  obtain ⟨b2,g2⟩:=hBa 2 _ rfl
  obtain ⟨b3,g3⟩:=hBa 3 _ rfl
  obtain ⟨b4,g4⟩:=hBa 4 _ rfl
  obtain ⟨b5,g5⟩:=hBa 5 _ rfl
  obtain ⟨b6,g6⟩:=hBa 6 _ rfl
  obtain ⟨b7,g7⟩:=hBa 7 _ rfl
  obtain ⟨b8,g8⟩:=hBa 8 _ rfl
  obtain ⟨b9,g9⟩:=hBa 9 _ rfl
  obtain ⟨b10,g10⟩:=hBa 10 _ rfl
  obtain ⟨a0,k0⟩:=hAa 0 _ rfl
  obtain ⟨a1,k1⟩:=hAa 1 _ rfl
  obtain ⟨a2,k2⟩:=hAa 2 _ rfl
  obtain ⟨a3,k3⟩:=hAa 3 _ rfl
  obtain ⟨a4,k4⟩:=hAa 4 _ rfl
  obtain ⟨a5,k5⟩:=hAa 5 _ rfl
  obtain ⟨a6,k6⟩:=hAa 6 _ rfl
  obtain ⟨a7,k7⟩:=hAa 7 _ rfl
  obtain ⟨a8,k8⟩:=hAa 8 _ rfl
  obtain ⟨a9,k9⟩:=hAa 9 _ rfl
  obtain ⟨a10,k10⟩:=hAa 10 _ rfl
  have hAz:=(((((((((((hAa.set (i:=0) (by simp) (.string ⟨#[]⟩)).set (i:=1) (by simp) (.int .i64 0)).set (i:=2) (by simp) (.int .i64 0)).set (i:=3) (by simp) (.bool false)).set (i:=4) (by simp) (.bool false)).set (i:=5) (by simp) (.string ⟨#[]⟩)).set (i:=6) (by simp) (.string ⟨#[]⟩)).set (i:=7) (by simp) (.int .i64 0)).set (i:=8) (by simp) (.int .i64 0)).set (i:=9) (by simp) (.slice none 0 0)).set (i:=10) (by simp) (.slice none 0 0))
  have hpz:=(((((((((((hpa.far (Y:=w.heap.size) (i:=0) (by omega) (.string ⟨#[]⟩)).far (Y:=w.heap.size) (i:=1) (by omega) (.int .i64 0)).far (Y:=w.heap.size) (i:=2) (by omega) (.int .i64 0)).far (Y:=w.heap.size) (i:=3) (by omega) (.bool false)).far (Y:=w.heap.size) (i:=4) (by omega) (.bool false)).far (Y:=w.heap.size) (i:=5) (by omega) (.string ⟨#[]⟩)).far (Y:=w.heap.size) (i:=6) (by omega) (.string ⟨#[]⟩)).far (Y:=w.heap.size) (i:=7) (by omega) (.int .i64 0)).far (Y:=w.heap.size) (i:=8) (by omega) (.int .i64 0)).far (Y:=w.heap.size) (i:=9) (by omega) (.slice none 0 0)).far (Y:=w.heap.size) (i:=10) (by omega) (.slice none 0 0))
  have hFz:=(((((((((((hFa.setN (N:=w.heap.size) (i:=0) (Nat.le_refl _) (.string ⟨#[]⟩)).setN (N:=w.heap.size) (i:=1) (Nat.le_refl _) (.int .i64 0)).setN (N:=w.heap.size) (i:=2) (Nat.le_refl _) (.int .i64 0)).setN (N:=w.heap.size) (i:=3) (Nat.le_refl _) (.bool false)).setN (N:=w.heap.size) (i:=4) (Nat.le_refl _) (.bool false)).setN (N:=w.heap.size) (i:=5) (Nat.le_refl _) (.string ⟨#[]⟩)).setN (N:=w.heap.size) (i:=6) (Nat.le_refl _) (.string ⟨#[]⟩)).setN (N:=w.heap.size) (i:=7) (Nat.le_refl _) (.int .i64 0)).setN (N:=w.heap.size) (i:=8) (Nat.le_refl _) (.int .i64 0)).setN (N:=w.heap.size) (i:=9) (Nat.le_refl _) (.slice none 0 0)).setN (N:=w.heap.size) (i:=10) (Nat.le_refl _) (.slice none 0 0))
  clear hBa hAa hpa hFa
  go_wp2
  exact bodyPost_ret (state_res hAz rfl) rfl ⟨⟨_,rfl,.slice none 0 0,.slice none 0 0,rfl,rdK_none _ _ _ _,rdK_none _ _ _ _⟩,hpz,hFz⟩
end Go.Proofs.YtlgnahpfggagoaaGreatDoor
