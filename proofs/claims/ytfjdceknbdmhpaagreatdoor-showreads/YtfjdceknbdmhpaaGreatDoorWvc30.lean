import Derived.Test.YtfjdceknbdmhpaaGreatDoorWvc29
import Derived.Test.YtfjdceknbdmhpaaGreatDoorWvc07
import Derived.Test.YtfjdceknbdmhpaaGreatDoorWvc19
import Derived.Test.YtfjdceknbdmhpaaGreatDoorWvc10
import Derived.Test.YtfjdceknbdmhpaaGreatDoorWvc23
import Derived.Test.YtfjdceknbdmhpaaGreatDoorWvc18
/- What the program's chart does. -/
namespace Go.Proofs.YtfjdceknbdmhpaaGreatDoor
open Go.RowKit Go.Lib
set_option linter.unusedSimpArgs false
set_option linter.unusedVariables false
attribute [local go_sem ↓] Go.wp_at_zero Go.wp_at_succ
theorem state_all:∀ k,k≤6→StC k
 | 0,_=>state_zero
 | k+1,h=>state_step k h (state_all k (by omega))
abbrev zC6:Obj:=.cells #[.string ⟨#[]⟩,.int .i64 0,.int .i64 0,.int .i64 0,.slice none 0 0,.slice none 0 0] 33
abbrev zCl:List Value:=[.string ⟨#[]⟩,.int .i64 0,.int .i64 0,.int .i64 0,.slice none 0 0,.slice none 0 0]
theorem Tryz.infoVar:(Tryz.prog.info? 59).map (fun i=>(i.zero,i.size,i.bytes))=some (some (.agg #[.string ⟨#[]⟩,.int .i64 0,.int .i64 0,.int .i64 0]),4,40):=by kernel_rfl
theorem chart_res {w4:World} {R:Nat} {a b c d e f:Value} {tmps:Array Value} (hR:Bn w4 R [a,b,c,d,e,f]) (ht:tmps.getD 2 undef=.pointer (some ⟨R,0,none⟩)):(results Tryz.f59 tmps).run Tryz.prog w4=.ok (.agg #[a,b,c,d,e,f]) w4:=by
 have ht':tmps[2]?.getD undef=.pointer (some ⟨R,0,none⟩):=by simpa using ht
 have c0:=(hR 0 _ rfl).1
 have c1:=(hR 1 _ rfl).1
 have c2:=(hR 2 _ rfl).1
 have c3:=(hR 3 _ rfl).1
 have c4:=(hR 4 _ rfl).1
 have c5:=(hR 5 _ rfl).1
 simp [results,Tryz.results59,go_sem,ht',c0,c1,c2,c3,c4,c5]
theorem vars_yes {fin:Pl} {g:Nat} {acc:List (List UInt8 × Int × Pl)} {r:RsC} (h:isC wVar r=true):varsR fin (g+1) acc r=varsR fin g (acc++[(varR fin (takeR fin wVar r)).1]) (varR fin (takeR fin wVar r)).2:=by
 show (if isC wVar r=true then _ else _)=_
 rw [if_pos h];rfl
theorem vars_no {fin:Pl} {g:Nat} {acc:List (List UInt8 × Int × Pl)} {r:RsC} (h:isC wVar r=false):varsR fin (g+1) acc r=(acc,r):=by
 show (if isC wVar r=true then _ else _)=_
 rw [if_neg (by rw [h];decide)]
theorem sts_yes {fin:Pl} {g:Nat} {acc:List (St 7)} {r:RsC} (h:isC wState r=true):stsP fin (g+1) acc r=stsP fin g (acc++[(stP fin 6 r).1]) (stP fin 6 r).2:=by
 show (if isC wState r=true then _ else _)=_
 rw [if_pos h]
theorem sts_no {fin:Pl} {g:Nat} {acc:List (St 7)} {r:RsC} (h:isC wState r=false):stsP fin (g+1) acc r=(acc,r):=by
 show (if isC wState r=true then _ else _)=_
 rw [if_neg (by rw [h];decide)]
theorem goes_var (fin:Pl) (r:RsC):Goes r (varR fin r).2:=by
 refine ((goes_name fin r).trans (goes_take fin [61] _)).trans ?_
 show Goes (takeR fin [61] (nameR fin r).2) (if isC [45] (takeR fin [61] (nameR fin r).2)=true then (fun x=>(-x.1,x.2)) (numR fin (takeR fin [45] (takeR fin [61] (nameR fin r).2))) else numR fin (takeR fin [61] (nameR fin r).2)).2
 split
 ·exact (goes_take fin [45] _).trans (goes_num fin _)
 ·exact goes_num fin _
/-- A chart read from r on. -/
def chP1 (fin:Pl) (r:RsC):ChC × RsC:=
 let a:=nameR fin (takeR fin wChart r)
 let n:=numR fin a.2
 let b:=takeR fin [123] n.2
 let v:=varsR fin (b.1.length+1) [] b
 let s:=stsP fin (v.2.1.length+1) [] v.2
 ((a.1,n.1,v.1,s.1),takeR fin [125] s.2)
theorem chP_1 (fin:Pl) (ws:List Wd):chP fin ws=chP1 fin (ws,(0,0),0):=rfl
set_option maxRecDepth 100000 in
set_option maxHeartbeats 16000000 in
theorem chart_any {w:World} {X:Nat} {a:Option Addr} {cap:Nat} {ws:List Wd} {fin:Pl} {r:RsC} (h:Pr w X a cap ws fin r) (hk:Wk ws cap) (hE:Ey w X) :
  Calls Tryz.prog 59 #[.pointer (some ⟨X,0,none⟩)] w fun e w'=>(∃ v,e=.returned v∧RdC (fun b=>w.heap.size≤b) w' 7 (chP1 fin r).1 v)∧Pr w' X a cap ws fin (chP1 fin r).2∧Fx X w w':=by
 obtain ⟨io,hio,hio0,hio1,hio2⟩:=info_parts Tryz.infoVar
 obtain ⟨it,hit,hit0,hit1,hit2⟩:=info_parts Tryz.infoSt
 have hX:=h.lt
 have hlen:=hk.l
 have hbel:Below w.heap.size w ((w.alloc zC6).alloc zC6):=((Below.refl _ _).alloc (Nat.le_refl _) _).alloc (by simp) _
 have hp0:=h.on hbel
 have hE0:=hE.on hbel
 have hA0:Bn ((w.alloc zC6).alloc zC6) w.heap.size zCl:=(Bn.new w zCl 33 _ rfl).on ((Below.refl _ _).alloc (Nat.le_refl _) _)
 have hB0:Bn ((w.alloc zC6).alloc zC6) (w.heap.size+1) zCl:=Bn.new (w.alloc zC6) zCl 33 _ (by simp)
 have hF0:Fx X w ((w.alloc zC6).alloc zC6):=Fx.of hbel (Nat.le_refl _)
 have hs0:w.heap.size+2≤((w.alloc zC6).alloc zC6).heap.size:=by simp
 have e1:(⟨wState.toArray⟩:ByteArray)=⟨#[115,116,97,116,101]⟩:=rfl
 have e2:(⟨wVar.toArray⟩:ByteArray)=⟨#[118,97,114]⟩:=rfl
 have e3:(⟨wChart.toArray⟩:ByteArray)=⟨#[99,104,97,114,116]⟩:=rfl
 obtain ⟨RES,hRES⟩:∃ x,chP1 fin r=x:=⟨_,rfl⟩
 rw [hRES]
 unfold chP1 at hRES
 have hM1:=must_any hp0 hk wChart
 rw [e3] at hM1
 generalize takeR fin wChart r=r1 at *
 have hN:=fun w1 (hp:Pr w1 X a cap ws fin r1)=>pname_any hp hk
 obtain ⟨⟨⟨nm,ln,co⟩,r2⟩,hR1⟩:∃ x,nameR fin r1=x:=⟨_,rfl⟩
 simp only [hR1] at hN hRES
 have hNm:=fun w1 (hp:Pr w1 X a cap ws fin r2) (he:Ey w1 X)=>pnum_any hp hk he
 obtain ⟨⟨vn,r3⟩,hR2⟩:∃ x,numR fin r2=x:=⟨_,rfl⟩
 simp only [hR2] at hNm hRES
 have hM2:=fun w1 (hp:Pr w1 X a cap ws fin r3)=>must_any hp hk [123]
 generalize takeR fin [123] r3=r4 at *
 obtain ⟨nv,hnv⟩:∃ nv,(⟨nm.toArray⟩:ByteArray)=nv:=⟨_,rfl⟩
 unfold sV at hN
 simp only [hnv] at hN
 have HNV:Hid ((⟨nm.toArray⟩:ByteArray)=nv):=hnv
 obtain ⟨VS,hVS⟩:∃ o,varsR fin (r4.1.length+1) [] r4=o:=⟨_,rfl⟩
 simp only [hVS] at hRES
 have HO:Hid (varsR fin (r4.1.length+1) [] r4=VS):=hVS
 obtain ⟨OUT,hOUT⟩:∃ o,stsP fin (VS.2.1.length+1) [] VS.2=o:=⟨_,rfl⟩
 simp only [hOUT] at hRES
 have HP:Hid (stsP fin (VS.2.1.length+1) [] VS.2=OUT):=hOUT
 have HRES:Hid ((((nm,ln,co),vn,VS.1,OUT.1),takeR fin [125] OUT.2)=RES):=hRES
 have hM3:=fun w1 q (hp:Pr w1 X a cap ws fin q)=>must_any hp hk [125]
 have hQ:=fun w1 q (hp:Pr w1 X a cap ws fin q)=>skips_any hp hk wVar
 rw [e2] at hQ
 have hSe:=fun w1 q (hp:Pr w1 X a cap ws fin q)=>sees_any hp hk wState
 rw [e1] at hSe
 have hT:=fun w1 q (hp:Pr w1 X a cap ws fin q) (he:Ey w1 X)=>pvar_any hp hk he
 have hI:=fun w1 q (hp:Pr w1 X a cap ws fin q) (he:Ey w1 X)=>state_all 6 (Nat.le_refl _) w1 X a cap ws fin q 1 (by omega) hp hk he
 clear hR1 hR2 hRES hOUT hVS hnv hbel h
 go_enter Tryz.func59,Tryz.ntmps59
 go_upto_region 2 with fail
 generalize (w.alloc zC6).alloc zC6=w0 at *
 go_upto_region 3 with (first
  | (go_at_call 99;refine hM1.mono ?_;rintro e w3 ⟨⟨u,rfl⟩,hp3,hf3⟩))
 have hA3:=hA0.fx hf3 (by omega)
 have hB3:=hB0.fx hf3 (by omega)
 have hE3:=hE0.fx hf3
 have hF3:=hF0.trans hf3
 have hs3:=Nat.le_trans hs0 hf3.size
 clear hA0 hB0 hp0 hE0 hF0 hs0 hf3 hM1
 go_upto_region 4 with (first
  | (go_at_call 100;refine (hN _ hp3).mono ?_;rintro e w4 ⟨rfl,hp4,hf4⟩;have hA4:=hA3.fx hf4 (by omega);have hB4:=hB3.fx hf4 (by omega);obtain ⟨b0,g0⟩:=hB4 0 _ rfl;obtain ⟨b2,g2⟩:=hB4 2 _ rfl;obtain ⟨b3,g3⟩:=hB4 3 _ rfl))
 have hA5:=((hA4.far (X:=w.heap.size+1) (i:=0) (by omega) (.string nv)).far (X:=w.heap.size+1) (i:=2) (by omega) (.int .i64 ln)).far (X:=w.heap.size+1) (i:=3) (by omega) (.int .i64 co)
 have hB5:Bn _ (w.heap.size+1) [.string nv,.int .i64 0,.int .i64 ln,.int .i64 co,.slice none 0 0,.slice none 0 0]:=((hB4.set (i:=0) (by simp) (.string nv)).set (i:=2) (by simp) (.int .i64 ln)).set (i:=3) (by simp) (.int .i64 co)
 have hp5:=((hp4.far (Y:=w.heap.size+1) (i:=0) (by omega) (.string nv)).far (Y:=w.heap.size+1) (i:=2) (by omega) (.int .i64 ln)).far (Y:=w.heap.size+1) (i:=3) (by omega) (.int .i64 co)
 have hE5:=(((hE3.fx hf4).far (Y:=w.heap.size+1) (i:=0) (by omega) (.string nv)).far (Y:=w.heap.size+1) (i:=2) (by omega) (.int .i64 ln)).far (Y:=w.heap.size+1) (i:=3) (by omega) (.int .i64 co)
 have hF5:=(((hF3.trans hf4).setN (N:=w.heap.size+1) (i:=0) (by omega) (.string nv)).setN (N:=w.heap.size+1) (i:=2) (by omega) (.int .i64 ln)).setN (N:=w.heap.size+1) (i:=3) (by omega) (.int .i64 co)
 have hs5:w.heap.size+2≤(((w4.setCell ⟨w.heap.size+1,0,none⟩ (.string nv)).setCell ⟨w.heap.size+1,2,none⟩ (.int .i64 ln)).setCell ⟨w.heap.size+1,3,none⟩ (.int .i64 co)).heap.size:=by simpa using Nat.le_trans hs3 hf4.size
 clear hA3 hB3 hp3 hE3 hF3 hA4 hB4 hp4 hf4 b0 g0 b2 g2 b3 g3 hs3 hN
 generalize ((w4.setCell ⟨w.heap.size+1,0,none⟩ (.string nv)).setCell ⟨w.heap.size+1,2,none⟩ (.int .i64 ln)).setCell ⟨w.heap.size+1,3,none⟩ (.int .i64 co)=w5 at *
 go_upto_region 5 with (first
  | (go_at_call 101;refine (hNm _ hp5 hE5).mono ?_;rintro e w6 ⟨rfl,hp6,hf6⟩;have hA6:=hA5.fx hf6 (by omega);have hB6:=hB5.fx hf6 (by omega);obtain ⟨b1,g1⟩:=hB6 1 _ rfl))
 have hA7:=hA6.far (X:=w.heap.size+1) (i:=1) (by omega) (.int .i64 vn)
 have hB7:Bn _ (w.heap.size+1) [.string nv,.int .i64 vn,.int .i64 ln,.int .i64 co,.slice none 0 0,.slice none 0 0]:=hB6.set (i:=1) (by simp) (.int .i64 vn)
 have hp7:=hp6.far (Y:=w.heap.size+1) (i:=1) (by omega) (.int .i64 vn)
 have hE7:=(hE5.fx hf6).far (Y:=w.heap.size+1) (i:=1) (by omega) (.int .i64 vn)
 have hF7:=(hF5.trans hf6).setN (N:=w.heap.size+1) (i:=1) (by omega) (.int .i64 vn)
 have hs7:w.heap.size+2≤(w6.setCell ⟨w.heap.size+1,1,none⟩ (.int .i64 vn)).heap.size:=by simpa using Nat.le_trans hs5 hf6.size
 clear hA5 hB5 hp5 hE5 hF5 hA6 hB6 hp6 hf6 b1 g1 hs5 hNm
 generalize w6.setCell ⟨w.heap.size+1,1,none⟩ (.int .i64 vn)=w7 at *
 go_wp2_with (first
  | (go_at_call 99;refine (hM2 _ hp7).mono ?_;rintro e w8 ⟨⟨u,rfl⟩,hp8,hf8⟩))
 have hA8:=hA7.fx hf8 (by omega)
 have hB8:=hB7.fx hf8 (by omega)
 have hE8:=hE7.fx hf8
 have hF8:=hF7.trans hf8
 have hs8:=Nat.le_trans hs7 hf8.size
 clear hA7 hB7 hp7 hE7 hF7 hf8 hs7 hM2
 have hl8:=hp8.len
 go_loopw [] (fun wr=>∃ (g:Nat) (vs:List (List UInt8 × Int × Pl)) (q:RsC) (slv:Value),Pr wr X a cap ws fin q∧Hid (varsR fin g vs q=VS)∧q.1.length < g∧vs.length+q.1.length≤3000∧
  Bn wr (w.heap.size+1) [.string nv,.int .i64 vn,.int .i64 ln,.int .i64 co,slv,.slice none 0 0]∧OwnB wr (w.heap.size+2) (fun b=>(Value.slice none 0 0).ownBlock=some b) 59 4 rVar slv vs∧Bn wr w.heap.size zCl∧Ey wr X∧Fx X w wr∧w.heap.size+2≤wr.heap.size) (fun wr=>ws.length - nxt wr X)
 case atStart=>exact ⟨_,[],r4,_,hp8,HO,Nat.lt_succ_self _,by simp;omega,hB8,ownB_nil _ _ _ _ _ _,hA8,hE8,hF8,hs8⟩
 case round=>
  clear hA8 hB8 hp8 hE8 hF8 hs8 HO
  obtain ⟨g,vs,q,slv,hp,ho,hgl,hal,hB,hO,hA,hE,hF,hsz⟩:=hrel
  obtain ⟨g',rfl⟩:∃ g',g=g'+1:=⟨g - 1,by omega⟩
  have hm1:=hp.left
  have hXb:X < w.heap.size+2:=by omega
  obtain ⟨va,vc,rfl,hvl,hvm⟩:=hO.form
  have hQ1:=hQ _ _ hp
  cases hi1:isC wVar q with
  | true=>
   rw [hi1,skR_yes hi1] at hQ1
   have hout:=ho.out
   rw [vars_yes hi1] at hout
   have hT1:=fun w1 (hp:Pr w1 X a cap ws fin (takeR fin wVar q)) (he:Ey w1 X)=>hT w1 _ hp he
   have hgo:=(goes_var fin (takeR fin wVar q)).1
   have hlt:=takeR_less fin hi1
   generalize takeR fin wVar q=q1 at *
   obtain ⟨⟨s1,q2⟩,hS1⟩:∃ x,varR fin q1=x:=⟨_,rfl⟩
   simp only [hS1] at hT1 hout hgo
   have HOUT:Hid (varsR fin g' (vs++[s1]) q2=VS):=hout
   obtain ⟨sn,sv,sl,sc,hsv⟩:∃ sn sv sl sc,varV s1=[.string sn,.int .i64 sv,.int .i64 sl,.int .i64 sc]:=⟨_,_,_,_,rfl⟩
   have HC:Hid (∀ (w:World) (lo:Nat),rVar (fun b=>lo≤b) w s1 [.string sn,.int .i64 sv,.int .i64 sl,.int .i64 sc]):=fun _ _=>hsv.symm
   rw [hsv] at hT1
   clear hS1 hout hsv ho hT hI hSe hM3
   go_upto_region 7 with (first
    | (go_at_call 102;refine hQ1.mono ?_;rintro e w9 ⟨rfl,hp9,hf9⟩))
   have hB9:=hB.fx hf9 (by omega)
   have hA9:=hA.fx hf9 (by omega)
   have hO9:=hO.fx kp_var hf9 hXb
   have hE9:=hE.fx hf9
   have hF9:=hF.trans hf9
   have hs9:=Nat.le_trans hsz hf9.size
   have hp9d:=hp9.on ((Below.refl w9.heap.size w9).drew)
   have hE9d:=hE9.on ((Below.refl w9.heap.size w9).drew)
   clear hB hA hO hE hF hf9 hsz hp hQ1 hp9
   obtain ⟨k3,z3⟩:=hB9 4 _ rfl
   go_region_law (first
    | (refine step_pushB wa rfl _ _ 30 rfl (w.heap.size+2) (fun b=>(Value.slice none 0 0).ownBlock=some b) 59 io (.agg #[.string ⟨#[]⟩,.int .i64 0,.int .i64 0,.int .i64 0]) 4 40 Tryz.underlying30 hio hio0 hio1 hio2 rfl kp_var (.slice va vs.length vc) vs s1 [.string sn,.int .i64 sv,.int .i64 sl,.int .i64 sc] w9.heap.size rfl rfl rfl (by simp [Value.oneCell']) hOa (HC.out _ _) hs9 (fun x hx=>(hO9.lt x hx).2) (fun b hb=>by simp [Value.ownBlock] at hb) (by omega) (by unfold maxLen;omega) hsa ?_;intro vb wb hOb hgb hbb hat;have hBb:=hBa.blk (hbb.block _ (by omega));have hAb:=hAa.blk (hbb.block _ (by omega));have hpb:=hpa.belowB hbb (by omega);have hEb:=hEa.bel hbb (by omega);have hFb:=hFa.andB hbb (by omega);obtain ⟨m5,n5⟩:=hBb 4 _ rfl;obtain ⟨vba,vbc,hvb,hvbl,hvbm⟩:=hOb.form;rw [List.length_append,List.length_singleton] at hvb;subst hvb)
    | (go_simp;(with_reducible refine (hT1 _ hp9d hE9d).mono ?_);rintro e wa ⟨rfl,hpa,hfa⟩;have hfa':=((Fx.refl X w9).drew).trans hfa;have hBa:=hB9.fx hfa' (by omega);have hAa:=hA9.fx hfa' (by omega);have hOa:=hO9.fx kp_var hfa' hXb;have hEa:=hE9.fx hfa';have hFa:=hF9.trans hfa';have hsa:=Nat.le_trans hs9 hfa'.size;obtain ⟨m3,n3⟩:=hBa 4 _ rfl;have hali:=(Below.refl wa.heap.size wa).alloc (Nat.le_refl _) (.cells #[.string sn,.int .i64 sv,.int .i64 sl,.int .i64 sc] 59);have m4:=((hBa.on hali) 4 _ rfl).1)
    | fail)
   all_goals (
    have hBc:=hBb.set (i:=4) (by simp) (.slice vba (vs.length+1) vbc)
    have hAc:=hAb.far (X:=w.heap.size+1) (i:=4) (by omega) (.slice vba (vs.length+1) vbc)
    have hOc:=hOb.set kp_var (X:=w.heap.size+1) (i:=4) (by omega) (.slice vba (vs.length+1) vbc)
    have hpc:=hpb.far (Y:=w.heap.size+1) (i:=4) (by omega) (.slice vba (vs.length+1) vbc)
    have hEc:=hEb.far (Y:=w.heap.size+1) (i:=4) (by omega) (.slice vba (vs.length+1) vbc)
    have hFc:=hFb.setN (N:=w.heap.size+1) (i:=4) (by omega) (.slice vba (vs.length+1) vbc)
    have hsc:w.heap.size+2≤(wb.setCell ⟨w.heap.size+1,4,none⟩ (.slice vba (vs.length+1) vbc)).heap.size:=by simpa using Nat.le_trans hsa hbb.size
    have hm2:=hpc.left
    have hlc:(vs++[s1]).length=vs.length+1:=by simp
    clear hBa hAa hOa hpa hEa hFa hfa hfa' hsa m3 n3 hali m4 hBb hAb hOb hpb hEb hFb hgb hbb hat k3 z3
    go_wp2
    go_roundw
    case rel=>exact ⟨g',vs++[s1],q2,_,hpc,HOUT,by omega,by omega,hBc,hOc,hAc,hEc,hFc,hsc⟩
    case measure=>omega)
  | false=>
   rw [hi1,skR_no hi1] at hQ1
   have hout:=ho.out
   rw [vars_no hi1] at hout
   subst hout
   simp only at HP HRES
   clear ho hT hQ
   go_wp2_with (first
    | (go_at_call 102;refine hQ1.mono ?_;rintro e w9 ⟨rfl,hp9,hf9⟩))
   have hB9:=hB.fx hf9 (by omega)
   have hA9:=hA.fx hf9 (by omega)
   have hO9:=hO.fx kp_var hf9 hXb
   have hE9:=hE.fx hf9
   have hF9:=hF.trans hf9
   have hs9:=Nat.le_trans hsz hf9.size
   clear hB hA hO hE hF hf9 hsz hp hQ1
   have hl9:=hp9.len
   go_loopw [] (fun wr=>∃ (g:Nat) (ss:List (St 7)) (q:RsC) (sls:Value),Pr wr X a cap ws fin q∧Hid (stsP fin g ss q=OUT)∧0 < g∧(q.2.2=0→q.1.length < g)∧ss.length+q.1.length+erq wr X≤3001∧
    Bn wr (w.heap.size+1) [.string nv,.int .i64 vn,.int .i64 ln,.int .i64 co,.slice va vs.length vc,sls]∧OwnB wr (w.heap.size+2) (fun b=>sls.ownBlock=some b) 59 4 rVar (.slice va vs.length vc) vs∧OwnB wr (w.heap.size+2) (fun b=>(Value.slice va vs.length vc).ownBlock=some b) 55 11 (rSt 7) sls ss∧Bn wr w.heap.size zCl∧Ey wr X∧Fx X w wr∧w.heap.size+2≤wr.heap.size) (fun wr=>2*(ws.length - nxt wr X)+erq wr X)
   case atStart=>
    have hq:=hp9.erq
    refine ⟨_,[],q,_,hp9,HP,Nat.succ_pos _,fun _=>Nat.lt_succ_self _,?_,hB9,hO9,ownB_nil _ _ _ _ _ _,hA9,hE9,hF9,hs9⟩
    have:erq w9 X≤1:=by rw [hq];split <;> omega
    simp only [List.length_nil]
    omega
   case round=>
    clear hA9 hB9 hp9 hE9 hF9 hs9 HP hO9 hl9 hm1 hgl hal
    obtain ⟨g,ss,q,sls,hp,ho,hg0,hgl,hal,hB,hO,hOi,hA,hE,hF,hsz⟩:=hrel
    obtain ⟨g',rfl⟩:∃ g',g=g'+1:=⟨g - 1,by omega⟩
    have hm1:=hp.left
    have hq1:=hp.erq
    obtain ⟨ua,uc,rfl,hul,hum⟩:=hOi.form
    have hS1:=hSe _ _ hp
    cases hi2:isC wState q with
    | true=>
     rw [hi2] at hS1
     have hout:=ho.out
     rw [sts_yes hi2] at hout
     have hI1:=fun w1 (hp:Pr w1 X a cap ws fin q) (he:Ey w1 X)=>hI w1 q hp he
     have hgo:=goesP_st fin 6 hi2
     have hlt0:=(isC_cons hi2).1
     have hlt1:1≤q.1.length:=by obtain ⟨x,l,hx⟩:=(isC_cons hi2).2;rw [hx];simp
     rw [if_pos hlt0] at hq1
     obtain ⟨⟨s1,q2⟩,hS⟩:∃ x,stP fin 6 q=x:=⟨_,rfl⟩
     simp only [hS] at hI1 hout hgo
     have HOUT:Hid (stsP fin g' (ss++[s1]) q2=OUT):=hout
     obtain ⟨sn,sl,sc,sb,se,sd,su,sw,sr,hsv⟩:∃ sn sl sc sb se sd su sw sr,hdV s1.1=fun so si=>[.string sn,.int .i64 sl,.int .i64 sc,.bool sb,.bool se,.string sd,.string su,.int .i64 sw,.int .i64 sr,so,si]:=⟨_,_,_,_,_,_,_,_,_,rfl⟩
     have hI2:∀ w1,Pr w1 X a cap ws fin q→Ey w1 X→Calls Tryz.prog 105 #[.pointer (some ⟨X,0,none⟩),.int .i64 1] w1 fun e w'=>(∃ so si,e=.returned (.agg #[.string sn,.int .i64 sl,.int .i64 sc,.bool sb,.bool se,.string sd,.string su,.int .i64 sw,.int .i64 sr,so,si])∧rSt 7 (fun b=>w1.heap.size≤b) w' s1 [.string sn,.int .i64 sl,.int .i64 sc,.bool sb,.bool se,.string sd,.string su,.int .i64 sw,.int .i64 sr,so,si]∧(∃ p1 p2 p3,so=.slice p1 p2 p3)∧∃ p1 p2 p3,si=.slice p1 p2 p3)∧Pr w' X a cap ws fin q2∧Fx X w1 w':=fun w1 hp1 he1=>(hI1 w1 hp1 he1).mono (fun e w' hh=>by
      obtain ⟨⟨cs,h1,so,si,h2,h3,h4⟩,h5,h6⟩:=hh
      refine ⟨⟨so,si,?_,⟨so,si,?_,h3,h4⟩,?_,?_⟩,h5,h6⟩
      ·rw [h1,h2,hsv]
      ·rw [hsv]
      ·obtain ⟨p1,p3,e,_⟩:=h3.form;exact ⟨_,_,_,e⟩
      ·obtain ⟨p1,p3,e,_⟩:=h4.form;exact ⟨_,_,_,e⟩)
     clear hS hout hI1 ho hsv hI hSe hM3
     go_upto_region 9 with (first
      | (go_at_call 104;refine hS1.mono ?_;rintro e w9 ⟨rfl,m9,rfl⟩))
     have hf9:=(Fx.refl X wr).drewN m9
     have hp9:=hp.on (draws wr m9)
     have hB9:=hB.fx hf9 (by omega)
     have hA9:=hA.fx hf9 (by omega)
     have hO9:=hO.fx kp_var hf9 hXb
     have hOi9:=hOi.fx (kp_st _) hf9 hXb
     have hE9:=hE.fx hf9
     have hF9:=hF.trans hf9
     have hs9:w.heap.size+2≤(wr.drewN m9).heap.size:=Nat.le_trans hsz hf9.size
     clear hB hA hO hOi hE hF hf9 hsz hp hS1
     generalize wr.drewN m9=w9 at *
     have hp9d:=hp9.on ((Below.refl w9.heap.size w9).drew)
     have hE9d:=hE9.on ((Below.refl w9.heap.size w9).drew)
     obtain ⟨k3,z3⟩:=hB9 5 _ rfl
     go_region_law (first
      | (refine step_pushB wa rfl _ _ 31 rfl (w.heap.size+2) (fun b=>(Value.slice va vs.length vc).ownBlock=some b) 55 it (.agg #[.string ⟨#[]⟩,.int .i64 0,.int .i64 0,.bool false,.bool false,.string ⟨#[]⟩,.string ⟨#[]⟩,.int .i64 0,.int .i64 0,.slice none 0 0,.slice none 0 0]) 11 136 Tryz.underlying31 hit hit0 hit1 hit2 rfl (kp_st _) (.slice ua ss.length uc) ss s1 [.string sn,.int .i64 sl,.int .i64 sc,.bool sb,.bool se,.string sd,.string su,.int .i64 sw,.int .i64 sr,.slice p1 p2 p3,.slice p4 p5 p6] w9.heap.size rfl rfl rfl (by simp [Value.oneCell']) hOia hra hs9 (fun x hx=>(hOi9.lt x hx).2) (fun b hb=>⟨(hO9.lt b hb).2,(hOa.lt b hb).2⟩) (by omega) (by unfold maxLen;omega) hsa ?_;intro vb wb hOb hgb hbb hat;have hBb:=hBa.blk (hbb.block _ (by omega));have hAb:=hAa.blk (hbb.block _ (by omega));have hpb:=hpa.belowB hbb (by omega);have hEb:=hEa.bel hbb (by omega);have hFb:=hFa.andB hbb (by omega);have hOob:=(hOa.on kp_var hali).other kp_var hgb hat;obtain ⟨m5,n5⟩:=hBb 5 _ rfl;obtain ⟨vba,vbc,hvb,hvbl,hvbm⟩:=hOb.form;rw [List.length_append,List.length_singleton] at hvb;subst hvb)
      | (go_simp;(with_reducible refine (hI2 _ hp9d hE9d).mono ?_);rintro e wa ⟨⟨so,si,rfl,hra,⟨p1,p2,p3,rfl⟩,p4,p5,p6,rfl⟩,hpa,hfa⟩;have hfa':=((Fx.refl X w9).drew).trans hfa;have hBa:=hB9.fx hfa' (by omega);have hAa:=hA9.fx hfa' (by omega);have hOa:=hO9.fx kp_var hfa' hXb;have hOia:=hOi9.fx (kp_st _) hfa' hXb;have hEa:=hE9.fx hfa';have hFa:=hF9.trans hfa';have hsa:=Nat.le_trans hs9 hfa'.size;obtain ⟨m3,n3⟩:=hBa 5 _ rfl;have hali:=(Below.refl wa.heap.size wa).alloc (Nat.le_refl _) (.cells #[.string sn,.int .i64 sl,.int .i64 sc,.bool sb,.bool se,.string sd,.string su,.int .i64 sw,.int .i64 sr,.slice p1 p2 p3,.slice p4 p5 p6] 55);have m4:=((hBa.on hali) 5 _ rfl).1)
      | fail)
     all_goals (
      have hBc:=hBb.set (i:=5) (by simp) (.slice vba (ss.length+1) vbc)
      have hAc:=hAb.far (X:=w.heap.size+1) (i:=5) (by omega) (.slice vba (ss.length+1) vbc)
      have hOc:=hOob.set kp_var (X:=w.heap.size+1) (i:=5) (by omega) (.slice vba (ss.length+1) vbc)
      have hOic:=hOb.set (kp_st _) (X:=w.heap.size+1) (i:=5) (by omega) (.slice vba (ss.length+1) vbc)
      have hpc:=hpb.far (Y:=w.heap.size+1) (i:=5) (by omega) (.slice vba (ss.length+1) vbc)
      have hEc:=hEb.far (Y:=w.heap.size+1) (i:=5) (by omega) (.slice vba (ss.length+1) vbc)
      have hFc:=hFb.setN (N:=w.heap.size+1) (i:=5) (by omega) (.slice vba (ss.length+1) vbc)
      have hsc:w.heap.size+2≤(wb.setCell ⟨w.heap.size+1,5,none⟩ (.slice vba (ss.length+1) vbc)).heap.size:=by simpa using Nat.le_trans hsa hbb.size
      have hm2:=hpc.left
      have hq2:=hpc.erq
      have hlc:(ss++[s1]).length=ss.length+1:=by simp
      have hgl2:=hgl hlt0
      obtain ⟨hgo1,hgo2⟩:=hgo
      have hgo3:=hgo1.1
      have hmq:q2.1.length+erq (wb.setCell ⟨w.heap.size+1,5,none⟩ (.slice vba (ss.length+1) vbc)) X≤q.1.length∧2*q2.1.length+erq (wb.setCell ⟨w.heap.size+1,5,none⟩ (.slice vba (ss.length+1) vbc)) X < 2*q.1.length+1:=by
       rw [hq2]
       by_cases hz:q2.2.2=0
       ·rw [if_pos hz];have:=hgo2 hz;omega
       ·rw [if_neg hz];omega
      have hgq:0 < g'∧(q2.2.2=0→q2.1.length < g'):=⟨by omega,fun hz=>by have:=hgo2 hz;omega⟩
      clear hBa hAa hOa hOia hpa hEa hFa hfa hfa' hsa m3 n3 hali m4 hBb hAb hOb hOob hpb hEb hFb hgb hbb hat k3 z3 hra hq2 hgo1 hgo2
      go_wp2
      go_roundw
      case rel=>exact ⟨g',ss++[s1],q2,_,hpc,HOUT,hgq.1,hgq.2,by omega,hBc,hOc,hOic,hAc,hEc,hFc,hsc⟩
      case measure=>omega)
    | false=>
     rw [hi2] at hS1
     have hout:=ho.out
     rw [sts_no hi2] at hout
     have HOUT:Hid ((ss,q)=OUT):=hout
     have hM4:=fun w1 (hp:Pr w1 X a cap ws fin q)=>hM3 w1 _ hp
     clear hout ho hI hSe hM3
     go_upto_region 10 with (first
      | (go_at_call 104;refine hS1.mono ?_;rintro e w9 ⟨rfl,m9,rfl⟩))
     have hf9:=(Fx.refl X wr).drewN m9
     have hp9:=hp.on (draws wr m9)
     have hB9:=hB.fx hf9 (by omega)
     have hA9:=hA.fx hf9 (by omega)
     have hO9:=hO.fx kp_var hf9 hXb
     have hOi9:=hOi.fx (kp_st _) hf9 hXb
     have hF9:=hF.trans hf9
     clear hB hA hO hOi hE hF hf9 hsz hp hS1
     generalize wr.drewN m9=w9 at *
     go_upto_region 11 with (first
      | (go_at_call 99;refine (hM4 _ hp9).mono ?_;rintro e wa ⟨⟨u,rfl⟩,hpa,hfa⟩))
     have hBa:=hB9.fx hfa (by omega)
     have hAa:=hA9.fx hfa (by omega)
     have hFa:=hF9.trans hfa
     have hOa:=hO9.fx kp_var hfa hXb
     have hOia:=hOi9.fx (kp_st _) hfa hXb
     clear hp9 hB9 hA9 hF9 hfa hO9 hOi9
     obtain ⟨b0,g0⟩:=hBa 0 _ rfl
     obtain ⟨b1,g1⟩:=hBa 1 _ rfl
     obtain ⟨b2,g2⟩:=hBa 2 _ rfl
     obtain ⟨b3,g3⟩:=hBa 3 _ rfl
     obtain ⟨b4,g4⟩:=hBa 4 _ rfl
     obtain ⟨b5,g5⟩:=hBa 5 _ rfl
     obtain ⟨a0,k0⟩:=hAa 0 _ rfl
     obtain ⟨a1,k1⟩:=hAa 1 _ rfl
     obtain ⟨a2,k2⟩:=hAa 2 _ rfl
     obtain ⟨a3,k3⟩:=hAa 3 _ rfl
     obtain ⟨a4,k4⟩:=hAa 4 _ rfl
     obtain ⟨a5,k5⟩:=hAa 5 _ rfl
     have hAz:=((((((hAa.set (i:=0) (by simp) (.string nv)).set (i:=1) (by simp) (.int .i64 vn)).set (i:=2) (by simp) (.int .i64 ln)).set (i:=3) (by simp) (.int .i64 co)).set (i:=4) (by simp) (.slice va vs.length vc)).set (i:=5) (by simp) (.slice ua ss.length uc))
     have hpz:=((((((hpa.far (Y:=w.heap.size) (i:=0) (by omega) (.string nv)).far (Y:=w.heap.size) (i:=1) (by omega) (.int .i64 vn)).far (Y:=w.heap.size) (i:=2) (by omega) (.int .i64 ln)).far (Y:=w.heap.size) (i:=3) (by omega) (.int .i64 co)).far (Y:=w.heap.size) (i:=4) (by omega) (.slice va vs.length vc)).far (Y:=w.heap.size) (i:=5) (by omega) (.slice ua ss.length uc))
     have hFz:=((((((hFa.setN (N:=w.heap.size) (i:=0) (Nat.le_refl _) (.string nv)).setN (N:=w.heap.size) (i:=1) (Nat.le_refl _) (.int .i64 vn)).setN (N:=w.heap.size) (i:=2) (Nat.le_refl _) (.int .i64 ln)).setN (N:=w.heap.size) (i:=3) (Nat.le_refl _) (.int .i64 co)).setN (N:=w.heap.size) (i:=4) (Nat.le_refl _) (.slice va vs.length vc)).setN (N:=w.heap.size) (i:=5) (Nat.le_refl _) (.slice ua ss.length uc))
     have hOz:=((((((hOa.set kp_var (X:=w.heap.size) (i:=0) (by omega) (.string nv)).set kp_var (X:=w.heap.size) (i:=1) (by omega) (.int .i64 vn)).set kp_var (X:=w.heap.size) (i:=2) (by omega) (.int .i64 ln)).set kp_var (X:=w.heap.size) (i:=3) (by omega) (.int .i64 co)).set kp_var (X:=w.heap.size) (i:=4) (by omega) (.slice va vs.length vc)).set kp_var (X:=w.heap.size) (i:=5) (by omega) (.slice ua ss.length uc))
     have hOiz:=((((((hOia.set (kp_st _) (X:=w.heap.size) (i:=0) (by omega) (.string nv)).set (kp_st _) (X:=w.heap.size) (i:=1) (by omega) (.int .i64 vn)).set (kp_st _) (X:=w.heap.size) (i:=2) (by omega) (.int .i64 ln)).set (kp_st _) (X:=w.heap.size) (i:=3) (by omega) (.int .i64 co)).set (kp_st _) (X:=w.heap.size) (i:=4) (by omega) (.slice va vs.length vc)).set (kp_st _) (X:=w.heap.size) (i:=5) (by omega) (.slice ua ss.length uc))
     clear hBa hAa hpa hFa hOa hOia
     go_wp2
     refine bodyPost_ret (chart_res hAz rfl) rfl ?_
     have hr:=HRES.out
     have hoo:=HOUT.out
     have hv:=HNV.out
     subst hoo
     subst hr
     subst hv
     exact ⟨⟨_,rfl,_,_,rfl,(hOz.rd kp_var).low kp_var (by omega),(hOiz.rd (kp_st _)).low (kp_st _) (by omega)⟩,hpz,hFz⟩
theorem end_same:∀ (rs:List Ru) (a b:Int),endP rs a b=endR rs a b
 | [],a,b=>rfl
 | u :: r,a,b=>by
  unfold endP endR
  rw [end_same r (a+1) 1,end_same r a (b+1)]
/-- What strconv.ErrSyntax holds, where the call begins. -/
def Esy (w:World):Prop:=∃ ev,w.cell? ⟨renA.g 15,0,none⟩=some ev∧(ev=.nilIface∨∃ te pe,ev=.iface te pe)
theorem Esy.lt {w:World} (h:Esy w):renA.g 15 < w.heap.size:=by
 obtain ⟨ev,h1,_⟩:=h
 exact World.block_lt_of_cell? w _ h1
theorem Esy.on {w w':World} (h:Esy w) (hb:Below w.heap.size w w'):Esy w':=by
 have hl:=h.lt
 obtain ⟨ev,h1,h2⟩:=h
 exact ⟨ev,(hb.cell (p:=⟨renA.g 15,0,none⟩) hl).trans h1,h2⟩
theorem Esy.ey {w w':World} (h:Esy w) (hb:Below w.heap.size w w') {X:Nat} (hX:w.heap.size≤X):Ey w' X:=by
 have hl:=h.lt
 exact ⟨h.on hb,by omega⟩
theorem Fx.bel {X B:Nat} {u a b:World} (h:Fx X a b) (hb:Below B u a) (hX:B≤X) (hB:B≤u.heap.size):Below B u b:=
 ⟨h.os.trans hb.os,h.tape.trans hb.tape,h.output.trans hb.output,Nat.le_trans hb.size h.size,fun k hk=>(h.block k (Nat.lt_of_lt_of_le hk (Nat.le_trans hB hb.size)) (fun e=>by have:k=X:=Option.some.inj e;omega)).trans (hb.block k hk)⟩
theorem below_st {B:Nat} {u w:World} (h:Below B u w) (X i:Nat) (v:Value) (hX:B≤X):Below B u (w.setCell ⟨X,i,none⟩ v):=h.setCell hX v
theorem read_res {w4:World} {R P:Nat} {a b c d e f p q n:Value} {tmps:Array Value} (hR:Bn w4 R [a,b,c,d,e,f]) (hP:Bn w4 P [p,q]) (ht:tmps.getD 2 undef=.pointer (some ⟨R,0,none⟩)) (ht3:tmps.getD 3 undef=.pointer (some ⟨P,0,none⟩)) (ht4:tmps.getD 4 undef=n):(results Tryz.f23 tmps).run Tryz.prog w4=.ok (.tuple #[.agg #[a,b,c,d,e,f],.agg #[p,q],n]) w4:=by
 have ht':tmps[2]?.getD undef=.pointer (some ⟨R,0,none⟩):=by simpa using ht
 have ht3':tmps[3]?.getD undef=.pointer (some ⟨P,0,none⟩):=by simpa using ht3
 have ht4':tmps[4]?.getD undef=n:=by simpa using ht4
 have c0:=(hR 0 _ rfl).1
 have c1:=(hR 1 _ rfl).1
 have c2:=(hR 2 _ rfl).1
 have c3:=(hR 3 _ rfl).1
 have c4:=(hR 4 _ rfl).1
 have c5:=(hR 5 _ rfl).1
 have d0:=(hP 0 _ rfl).1
 have d1:=(hP 1 _ rfl).1
 simp [results,Tryz.results23,go_sem,ht',ht3',ht4',c0,c1,c2,c3,c4,c5,d0,d1]
abbrev zPl:List Value:=[.int .i64 0,.int .i64 0]
set_option maxRecDepth 100000 in
set_option maxHeartbeats 8000000 in
theorem readP_any (s:ByteArray) (w:World) (hE:Esy w) (hs:s.size≤140737488351232) :
  Calls Tryz.prog 23 #[.string s] w fun e w'=>∃ v,e=.returned (.tuple #[v,.agg #[.int .i64 (readC (bl s)).2.1.1,.int .i64 (readC (bl s)).2.1.2],.int .i64 (readC (bl s)).2.2])∧RdC (fun b=>w.heap.size≤b) w' 7 (readC (bl s)).1 v∧Below w.heap.size w w':=by
 have hb0:Below w.heap.size w ((w.alloc zC6).alloc zP):=((Below.refl _ _).alloc (Nat.le_refl _) _).alloc (by simp) _
 have hA0:Bn ((w.alloc zC6).alloc zP) w.heap.size zCl:=(Bn.new w zCl 33 _ rfl).on ((Below.refl _ _).alloc (Nat.le_refl _) _)
 have hP0:Bn ((w.alloc zC6).alloc zP) (w.heap.size+1) zPl:=Bn.new (w.alloc zC6) zPl 23 _ (by simp)
 have hs0:w.heap.size+2≤((w.alloc zC6).alloc zP).heap.size:=by simp
 have hW:=pWords_any s ((w.alloc zC6).alloc zP) hs
 have hEn:=fun w1=>pEnd_any s w1 hs
 obtain ⟨RES,hRES⟩:∃ x,readC (bl s)=x:=⟨_,rfl⟩
 rw [hRES]
 unfold readC at hRES
 have h1:=fun h=>words_one (l:=bl s) h
 obtain ⟨⟨ws,⟨pl,pc⟩,er⟩,hR⟩:∃ r,wordsS (bl s)=r:=⟨_,rfl⟩
 rw [hR] at hW hRES h1
 simp only at hW hRES h1
 rw [end_same] at hRES
 obtain ⟨⟨eL,eC⟩,hEE⟩:∃ x,endR (runes (bl s)) 1 1=x:=⟨_,rfl⟩
 simp only [hEE] at hEn hRES
 by_cases he:er≠0
 ·rw [if_pos he] at hRES
  subst hRES
  have i1:(er != 0)=true:=by simpa using he
  clear h1 hR he hEE hEn
  go_enter Tryz.func23,Tryz.ntmps23
  go_upto_region 1 with fail
  generalize (w.alloc zC6).alloc zP=w0 at *
  go_upto_region 3 with (first
   | (go_at_call 46;refine hW.mono ?_;rintro e w1 ⟨u,rfl,hown,b1⟩;obtain ⟨a,cap,rfl,_⟩:=own_form hown))
  have hal:=(Below.refl w1.heap.size w1).alloc (Nat.le_refl _) (.cells #[.int .i64 pl,.int .i64 pc] 23)
  have hA2:=(hA0.on b1).on hal
  have hP2:=(hP0.on b1).on hal
  have hb2:=(hb0.trans (b1.mono hb0.size)).trans (hal.mono (Nat.le_trans hb0.size b1.size))
  have hQ2:Bn (w1.alloc (.cells #[.int .i64 pl,.int .i64 pc] 23)) w1.heap.size [.int .i64 pl,.int .i64 pc]:=Bn.new w1 [.int .i64 pl,.int .i64 pc] 23 _ rfl
  have hs2:w.heap.size+2≤w1.heap.size:=Nat.le_trans hs0 b1.size
  obtain ⟨N,hN⟩:∃ N,w1.heap.size=N:=⟨_,rfl⟩
  rw [hN] at hQ2 hs2 ⊢
  clear hA0 hP0 hb0 b1 hal hW hown hs0 hN
  generalize w1.alloc (.cells #[.int .i64 pl,.int .i64 pc] 23)=w2 at *
  obtain ⟨a0,k0⟩:=hA2 0 _ rfl
  obtain ⟨a1,k1⟩:=hA2 1 _ rfl
  obtain ⟨a2,k2⟩:=hA2 2 _ rfl
  obtain ⟨a3,k3⟩:=hA2 3 _ rfl
  obtain ⟨a4,k4⟩:=hA2 4 _ rfl
  obtain ⟨a5,k5⟩:=hA2 5 _ rfl
  obtain ⟨p0,o0⟩:=hP2 0 _ rfl
  obtain ⟨p1,o1⟩:=hP2 1 _ rfl
  obtain ⟨q0,r0⟩:=hQ2 0 _ rfl
  obtain ⟨q1,r1⟩:=hQ2 1 _ rfl
  go_region
  go_wp2
  exact bodyPost_ret (read_res (((((((((hA2.set (i:=0) (by simp) (.string ⟨#[]⟩)).set (i:=1) (by simp) (.int .i64 0)).set (i:=2) (by simp) (.int .i64 0)).set (i:=3) (by simp) (.int .i64 0)).set (i:=4) (by simp) (.slice none 0 0)).set (i:=5) (by simp) (.slice none 0 0)).far (X:=w.heap.size+1) (i:=0) (by omega) (.int .i64 pl)).far (X:=w.heap.size+1) (i:=1) (by omega) (.int .i64 pc)).drew) (((((((((hP2.far (X:=w.heap.size) (i:=0) (by omega) (.string ⟨#[]⟩)).far (X:=w.heap.size) (i:=1) (by omega) (.int .i64 0)).far (X:=w.heap.size) (i:=2) (by omega) (.int .i64 0)).far (X:=w.heap.size) (i:=3) (by omega) (.int .i64 0)).far (X:=w.heap.size) (i:=4) (by omega) (.slice none 0 0)).far (X:=w.heap.size) (i:=5) (by omega) (.slice none 0 0)).set (i:=0) (by simp) (.int .i64 pl)).set (i:=1) (by simp) (.int .i64 pc)).drew) rfl rfl rfl) rfl ⟨_,rfl,rdC_no _ _,(below_st (below_st (below_st (below_st (below_st (below_st (below_st (below_st hb2 w.heap.size 0 (.string ⟨#[]⟩) (Nat.le_refl _)) w.heap.size 1 (.int .i64 0) (Nat.le_refl _)) w.heap.size 2 (.int .i64 0) (Nat.le_refl _)) w.heap.size 3 (.int .i64 0) (Nat.le_refl _)) w.heap.size 4 (.slice none 0 0) (Nat.le_refl _)) w.heap.size 5 (.slice none 0 0) (Nat.le_refl _)) (w.heap.size+1) 0 (.int .i64 pl) (by omega)) (w.heap.size+1) 1 (.int .i64 pc) (by omega)).drew⟩
 ·rw [if_neg he,ch_eq,chP_1] at hRES
  have he0:er=0:=by simpa using he
  subst he0
  obtain ⟨h2,h3⟩:=h1 rfl
  clear h1 he hR hEE
  have hCh:=fun w1 X a cap (hp:Pr w1 X a cap ws (eL,eC) (ws,(0,0),0)) (hk:Wk ws cap) (he:Ey w1 X)=>chart_any hp hk he
  unfold chZ at hRES
  obtain ⟨⟨CC,r1⟩,hC⟩:∃ x,chP1 (eL,eC) (ws,(0,0),0)=x:=⟨_,rfl⟩
  simp only [hC] at hCh hRES
  have hLa:=fun w1 X a cap (hp:Pr w1 X a cap ws (eL,eC) r1) (hk:Wk ws cap)=>last_p hp hk
  obtain ⟨r2,hr2⟩:∃ r2,lastR (eL,eC) r1=r2:=⟨_,rfl⟩
  simp only [hr2] at hLa hRES
  have HRES:Hid ((if r2.2.2=0 then (CC,(0,0),0) else (noC,r2.2.1,r2.2.2))=RES):=hRES
  clear hC hr2 hRES
  go_enter Tryz.func23,Tryz.ntmps23
  go_upto_region 1 with fail
  generalize (w.alloc zC6).alloc zP=w0 at *
  go_upto_region 5 with (first
   | (go_at_call 46;refine hW.mono ?_;rintro e w1 ⟨u,rfl,hown,b1⟩;obtain ⟨a,cap,rfl,hwc,hwm,hwr⟩:=ownW_rd hown))
  have hal:=(Below.refl w1.heap.size w1).alloc (Nat.le_refl _) (.cells #[.int .i64 pl,.int .i64 pc] 23)
  have hal2:=(Below.refl (w1.alloc (.cells #[.int .i64 pl,.int .i64 pc] 23)).heap.size (w1.alloc (.cells #[.int .i64 pl,.int .i64 pc] 23))).alloc (Nat.le_refl _) (.cells #[.slice a ws.length cap,.int .i64 0,.int .i64 0] 102)
  have hal3:Below w1.heap.size w1 _:=hal.trans (hal2.mono hal.size)
  have hA2:=(hA0.on b1).on hal3
  have hP2:=(hP0.on b1).on hal3
  have hb2:=(hb0.trans (b1.mono hb0.size)).trans (hal3.mono (Nat.le_trans hb0.size b1.size))
  have hE2:=hE.ey hb2 (X:=w1.heap.size+1) (by have:=hb0.size;have:=b1.size;omega)
  have hs2:w.heap.size+2≤w1.heap.size:=Nat.le_trans hs0 b1.size
  have hX2:Bn ((w1.alloc (.cells #[.int .i64 pl,.int .i64 pc] 23)).alloc (.cells #[.slice a ws.length cap,.int .i64 0,.int .i64 0] 102)) (w1.heap.size+1) [.slice a ws.length cap,.int .i64 0,.int .i64 0]:=Bn.new _ [.slice a ws.length cap,.int .i64 0,.int .i64 0] 102 _ (by simp)
  have hp2:Pr ((w1.alloc (.cells #[.int .i64 pl,.int .i64 pc] 23)).alloc (.cells #[.slice a ws.length cap,.int .i64 0,.int .i64 0] 102)) (w1.heap.size+1) a cap ws (eL,eC) (ws,(0,0),0):=by
   refine ⟨0,⟨(hX2 0 _ rfl).1,(hX2 1 _ rfl).1,(hX2 2 _ rfl).1,(hX2 1 _ rfl).2,(hX2 2 _ rfl).2,fun i hi=>?_⟩,rfl,Nat.zero_le _,fun e=>absurd rfl e⟩
   obtain ⟨g,q1,q2,c0,c1,c2,c3⟩:=hwr i hi
   refine ⟨g,0,q1,by omega,?_,?_,?_,?_⟩ <;> rw [Nat.zero_add]
   ·exact (hal3.cell (p:=⟨g,i*4,none⟩) q2).trans c0
   ·exact (hal3.cell (p:=⟨g,i*4+1,none⟩) q2).trans c1
   ·exact (hal3.cell (p:=⟨g,i*4+2,none⟩) q2).trans c2
   ·exact (hal3.cell (p:=⟨g,i*4+3,none⟩) q2).trans c3
  have hk:Wk ws cap:=⟨h3,hwc,hwm,h2⟩
  have hga:∀ g off,a=some ⟨g,off,none⟩→w.heap.size+2≤g:=fun g off e=>Nat.le_trans hs0 (ownsRow_lt hown g (by rw [e];rfl)).1
  obtain ⟨X,hX⟩:∃ X,w1.heap.size+1=X:=⟨_,rfl⟩
  have hsX:w.heap.size+2 < X:=by omega
  rw [hX] at hp2 hE2 ⊢
  clear hX2 hA0 hP0 hb0 b1 hal hal2 hal3 hwr hown hs0 hW hs2 hX
  generalize (w1.alloc (.cells #[.int .i64 pl,.int .i64 pc] 23)).alloc (.cells #[.slice a ws.length cap,.int .i64 0,.int .i64 0] 102)=w2 at *
  obtain ⟨nv,hnv⟩:∃ nv,sV CC.1.1=.string nv:=⟨_,rfl⟩
  obtain ⟨cvn,hcvn⟩:∃ x,CC.2.1=x:=⟨_,rfl⟩
  obtain ⟨cln,hcln⟩:∃ x,CC.1.2.1=x:=⟨_,rfl⟩
  obtain ⟨cco,hcco⟩:∃ x,CC.1.2.2=x:=⟨_,rfl⟩
  have hCh2:Calls Tryz.prog 59 #[.pointer (some ⟨X,0,none⟩)] w2 fun e w'=>(∃ va vc sa sc,e=.returned (.agg #[.string nv,.int .i64 cvn,.int .i64 cln,.int .i64 cco,.slice va CC.2.2.1.length vc,.slice sa CC.2.2.2.length sc])∧RdK (fun b=>w2.heap.size≤b) w' 4 (rVar (fun b=>w2.heap.size≤b) w') CC.2.2.1 (.slice va CC.2.2.1.length vc)∧RdK (fun b=>w2.heap.size≤b) w' 11 (rSt 7 (fun b=>w2.heap.size≤b) w') CC.2.2.2 (.slice sa CC.2.2.2.length sc))∧Pr w' X a cap ws (eL,eC) r1∧Fx X w2 w':=(hCh w2 X a cap hp2 hk hE2).mono (fun e w' hh=>by
   obtain ⟨⟨v,rfl,cv,cs,rfl,hcv,hcs⟩,h5,h6⟩:=hh
   obtain ⟨va,vc,rfl,_⟩:=hcv.form
   obtain ⟨sa,sc,rfl,_⟩:=hcs.form
   exact ⟨⟨va,vc,sa,sc,by rw [hnv,hcvn,hcln,hcco],hcv,hcs⟩,h5,h6⟩)
  go_upto_region 6 with (first
   | (go_at_call 59;refine hCh2.mono ?_;rintro e w3 ⟨⟨va,vc,sa,sc,rfl,hcv,hcs⟩,hp3,hf3⟩))
  have hsz3:=hf3.size
  have hA3:=hA2.fx hf3 (by omega)
  have hP3:=hP2.fx hf3 (by omega)
  have hb3:=hf3.bel hb2 (by omega) (Nat.le_refl _)
  have hal:=(Below.refl w3.heap.size w3).alloc (Nat.le_refl _) (.cells #[.string nv,.int .i64 cvn,.int .i64 cln,.int .i64 cco,.slice va CC.2.2.1.length vc,.slice sa CC.2.2.2.length sc] 33)
  have hA4:=hA3.on hal
  have hP4:=hP3.on hal
  have hC4:Bn (w3.alloc (.cells #[.string nv,.int .i64 cvn,.int .i64 cln,.int .i64 cco,.slice va CC.2.2.1.length vc,.slice sa CC.2.2.2.length sc] 33)) w3.heap.size [.string nv,.int .i64 cvn,.int .i64 cln,.int .i64 cco,.slice va CC.2.2.1.length vc,.slice sa CC.2.2.2.length sc]:=Bn.new w3 [.string nv,.int .i64 cvn,.int .i64 cln,.int .i64 cco,.slice va CC.2.2.1.length vc,.slice sa CC.2.2.2.length sc] 33 _ rfl
  have hp4:=hp3.on hal
  have hb4:=hb3.trans (hal.mono hb3.size)
  have hX3:=hp3.lt
  have hR4:RdC (fun b=>w.heap.size+2≤b∧b≠X) (w3.alloc (.cells #[.string nv,.int .i64 cvn,.int .i64 cln,.int .i64 cco,.slice va CC.2.2.1.length vc,.slice sa CC.2.2.2.length sc] 33)) 7 CC (.agg #[.string nv,.int .i64 cvn,.int .i64 cln,.int .i64 cco,.slice va CC.2.2.1.length vc,.slice sa CC.2.2.2.length sc]):=by
   refine ⟨_,_,by rw [hnv,hcvn,hcln,hcco],hcv.stay kp_var (fun b hb hl=>⟨⟨?_,?_⟩,hal.block b hl⟩),hcs.stay (kp_st _) (fun b hb hl=>⟨⟨?_,?_⟩,hal.block b hl⟩)⟩
   ·have:=hp2.lt;omega
   ·have:=hp2.lt;omega
   ·have:=hp2.lt;omega
   ·have:=hp2.lt;omega
  obtain ⟨N,hN⟩:∃ N,w3.heap.size=N:=⟨_,rfl⟩
  obtain ⟨vn,hvn⟩:∃ n,CC.2.2.1.length=n:=⟨_,rfl⟩
  obtain ⟨sn,hsn⟩:∃ n,CC.2.2.2.length=n:=⟨_,rfl⟩
  rw [hvn,hsn] at hA4 hP4 hC4 hp4 hb4 hR4 ⊢
  rw [hN] at hC4 ⊢
  have hNX:X < N:=by omega
  clear hA2 hP2 hb2 hp2 hE2 hf3 hA3 hP3 hb3 hal hp3 hX3 hnv hcvn hcln hcco hN hCh hCh2 hcv hcs hvn hsn
  generalize w3.alloc (.cells #[.string nv,.int .i64 cvn,.int .i64 cln,.int .i64 cco,.slice va vn vc,.slice sa sn sc] 33)=w4 at *
  have hLa4:=hLa w4 X a cap hp4 hk
  go_upto_region 7 with (first
   | (go_at_call 60;refine hLa4.mono ?_;rintro e w5 ⟨⟨u,rfl⟩,hp5,hf5⟩))
  have hA5:=hA4.fx hf5 (by omega)
  have hP5:=hP4.fx hf5 (by omega)
  have hC5:=hC4.fx hf5 (by omega)
  have hb5:=hf5.bel hb4 (by omega) (Nat.le_refl _)
  have hR5:RdC (fun b=>w.heap.size+2≤b) w5 7 CC (.agg #[.string nv,.int .i64 cvn,.int .i64 cln,.int .i64 cco,.slice va vn vc,.slice sa sn sc]):=hR4.keep (fun b hb hl=>⟨hb.1,hf5.block b hl (fun e=>hb.2 (Option.some.inj e))⟩)
  clear hA4 hP4 hC4 hb4 hR4 hf5 hp4 hLa hLa4
  obtain ⟨n,⟨c0,c1,c2,f1,f2,hL⟩,h5,h6,h7⟩:=id hp5
  obtain ⟨b,hb⟩:∃ b,r2.2.2=b:=⟨_,rfl⟩
  rw [hb] at c2
  have hlen:=hk.l
  have hcap:=hk.c
  obtain ⟨a0,k0⟩:=hA5 0 _ rfl
  obtain ⟨a1,k1⟩:=hA5 1 _ rfl
  obtain ⟨a2,k2⟩:=hA5 2 _ rfl
  obtain ⟨a3,k3⟩:=hA5 3 _ rfl
  obtain ⟨a4,k4⟩:=hA5 4 _ rfl
  obtain ⟨a5,k5⟩:=hA5 5 _ rfl
  obtain ⟨p0,o0⟩:=hP5 0 _ rfl
  obtain ⟨p1,o1⟩:=hP5 1 _ rfl
  by_cases hz:b=0
  ·subst hz
   have hv:=HRES.out
   rw [if_pos hb] at hv
   subst hv
   obtain ⟨y0,z0⟩:=hC5 0 _ rfl
   obtain ⟨y1,z1⟩:=hC5 1 _ rfl
   obtain ⟨y2,z2⟩:=hC5 2 _ rfl
   obtain ⟨y3,z3⟩:=hC5 3 _ rfl
   obtain ⟨y4,z4⟩:=hC5 4 _ rfl
   obtain ⟨y5,z5⟩:=hC5 5 _ rfl
   clear hL h5 h7 hb HRES
   go_wp2
   exact bodyPost_ret (read_res ((((((((hA5.set (i:=0) (by simp) (.string nv)).set (i:=1) (by simp) (.int .i64 cvn)).set (i:=2) (by simp) (.int .i64 cln)).set (i:=3) (by simp) (.int .i64 cco)).set (i:=4) (by simp) (.slice va vn vc)).set (i:=5) (by simp) (.slice sa sn sc)).far (X:=w.heap.size+1) (i:=0) (by omega) (.int .i64 0)).far (X:=w.heap.size+1) (i:=1) (by omega) (.int .i64 0)) ((((((((hP5.far (X:=w.heap.size) (i:=0) (by omega) (.string nv)).far (X:=w.heap.size) (i:=1) (by omega) (.int .i64 cvn)).far (X:=w.heap.size) (i:=2) (by omega) (.int .i64 cln)).far (X:=w.heap.size) (i:=3) (by omega) (.int .i64 cco)).far (X:=w.heap.size) (i:=4) (by omega) (.slice va vn vc)).far (X:=w.heap.size) (i:=5) (by omega) (.slice sa sn sc)).set (i:=0) (by simp) (.int .i64 0)).set (i:=1) (by simp) (.int .i64 0)) rfl rfl rfl) rfl ⟨_,rfl,hR5.keep (fun b hb hl=>⟨by omega,by rw [Below.heap_setCell _ _ _ _ (fun e=>by have e':b=w.heap.size+1:=e;omega),Below.heap_setCell _ _ _ _ (fun e=>by have e':b=w.heap.size+1:=e;omega),Below.heap_setCell _ _ _ _ (fun e=>by have e':b=w.heap.size:=e;omega),Below.heap_setCell _ _ _ _ (fun e=>by have e':b=w.heap.size:=e;omega),Below.heap_setCell _ _ _ _ (fun e=>by have e':b=w.heap.size:=e;omega),Below.heap_setCell _ _ _ _ (fun e=>by have e':b=w.heap.size:=e;omega),Below.heap_setCell _ _ _ _ (fun e=>by have e':b=w.heap.size:=e;omega),Below.heap_setCell _ _ _ _ (fun e=>by have e':b=w.heap.size:=e;omega)]⟩),(below_st (below_st (below_st (below_st (below_st (below_st (below_st (below_st hb5 w.heap.size 0 (.string nv) (Nat.le_refl _)) w.heap.size 1 (.int .i64 cvn) (Nat.le_refl _)) w.heap.size 2 (.int .i64 cln) (Nat.le_refl _)) w.heap.size 3 (.int .i64 cco) (Nat.le_refl _)) w.heap.size 4 (.slice va vn vc) (Nat.le_refl _)) w.heap.size 5 (.slice sa sn sc) (Nat.le_refl _)) (w.heap.size+1) 0 (.int .i64 0) (by omega)) (w.heap.size+1) 1 (.int .i64 0) (by omega))⟩
  ·have hv:=HRES.out
   rw [if_neg (by rw [hb];exact hz),h7 (by rw [hb];exact hz),hb] at hv
   have i1:(b == 0)=false:=by simpa using hz
   unfold hereR at hv
   cases hr:r2.1 with
   | nil=>
    rw [hr] at h5 hv
    have hn:=drop_nil h5 h6
    have HV:Hid ((noC,(eL,eC),b)=RES):=hv
    have i2:(n == ws.length)=true:=by simpa using hn
    have i3:((n:Int) == (ws.length:Int))=true:=by simp [hn]
    clear hL h5 h6 h7 hr HRES hz hv hn
    go_upto_region 10 with fail
    go_region_law (first
     | (go_simp;(with_reducible refine (hEn _).mono ?_);rintro e w6 ⟨rfl,b6⟩;have b6':=((Below.refl w5.heap.size w5).drew).trans b6;have hA6:=hA5.on b6';have hP6:=hP5.on b6';have hb6:=hb5.trans (b6'.mono hb5.size);have c2':w6.cell? ⟨X,2,none⟩=some (.int .i64 b):=((b6'.cell (p:=⟨X,2,none⟩) hp5.lt).trans c2);obtain ⟨u0,x0⟩:=hA6 0 _ rfl;obtain ⟨u1,x1⟩:=hA6 1 _ rfl;obtain ⟨u2,x2⟩:=hA6 2 _ rfl;obtain ⟨u3,x3⟩:=hA6 3 _ rfl;obtain ⟨u4,x4⟩:=hA6 4 _ rfl;obtain ⟨u5,x5⟩:=hA6 5 _ rfl;obtain ⟨y0,z0⟩:=hP6 0 _ rfl;obtain ⟨y1,z1⟩:=hP6 1 _ rfl)
     | fail)
    all_goals (
     go_wp2
     have hvv:=HV.out
     subst hvv
     exact bodyPost_ret (read_res ((((((((hA6.set (i:=0) (by simp) (.string ⟨#[]⟩)).set (i:=1) (by simp) (.int .i64 0)).set (i:=2) (by simp) (.int .i64 0)).set (i:=3) (by simp) (.int .i64 0)).set (i:=4) (by simp) (.slice none 0 0)).set (i:=5) (by simp) (.slice none 0 0)).far (X:=w.heap.size+1) (i:=0) (by omega) (.int .i64 eL)).far (X:=w.heap.size+1) (i:=1) (by omega) (.int .i64 eC)) ((((((((hP6.far (X:=w.heap.size) (i:=0) (by omega) (.string ⟨#[]⟩)).far (X:=w.heap.size) (i:=1) (by omega) (.int .i64 0)).far (X:=w.heap.size) (i:=2) (by omega) (.int .i64 0)).far (X:=w.heap.size) (i:=3) (by omega) (.int .i64 0)).far (X:=w.heap.size) (i:=4) (by omega) (.slice none 0 0)).far (X:=w.heap.size) (i:=5) (by omega) (.slice none 0 0)).set (i:=0) (by simp) (.int .i64 eL)).set (i:=1) (by simp) (.int .i64 eC)) rfl rfl rfl) rfl ⟨_,rfl,rdC_no _ _,(below_st (below_st (below_st (below_st (below_st (below_st (below_st (below_st hb6 w.heap.size 0 (.string ⟨#[]⟩) (Nat.le_refl _)) w.heap.size 1 (.int .i64 0) (Nat.le_refl _)) w.heap.size 2 (.int .i64 0) (Nat.le_refl _)) w.heap.size 3 (.int .i64 0) (Nat.le_refl _)) w.heap.size 4 (.slice none 0 0) (Nat.le_refl _)) w.heap.size 5 (.slice none 0 0) (Nat.le_refl _)) (w.heap.size+1) 0 (.int .i64 eL) (by omega)) (w.heap.size+1) 1 (.int .i64 eC) (by omega))⟩)
   | cons x l=>
    rw [hr] at h5 hv
    obtain ⟨hn,_,hx⟩:=drop_cons h5
    obtain ⟨g,off,rfl,hg,d0,d1,d2,d3⟩:=hL n hn
    have hg2:=hga g off rfl
    have hg3:¬ g=w.heap.size:=by omega
    have hg4:¬ w.heap.size=g:=by omega
    have hg5:¬ g=w.heap.size+1:=by omega
    have hg6:¬ w.heap.size+1=g:=by omega
    have hg7:¬ X=w.heap.size:=by omega
    have hg8:¬ w.heap.size=X:=by omega
    have hg9:¬ X=w.heap.size+1:=by omega
    have hg10:¬ w.heap.size+1=X:=by omega
    rw [hx hn] at d0 d1 d2 d3
    obtain ⟨K,seg,xl,xc⟩:=x
    simp only at d0 d1 d2 d3
    have HV:Hid ((noC,(xl,xc),b)=RES):=hv
    have i2:((n:Int) == (ws.length:Int))=false:=by simp;omega
    have i3:(n:Int) < (ws.length:Int):=by omega
    have i4:(0:Int)≤(n:Int):=by omega
    clear hL h5 h6 h7 hr HRES hz hv hx
    go_upto_region 11 with fail
    go_region
    go_wp2
    have hvv:=HV.out
    subst hvv
    exact bodyPost_ret (read_res (((((((((hA5.set (i:=0) (by simp) (.string ⟨#[]⟩)).set (i:=1) (by simp) (.int .i64 0)).set (i:=2) (by simp) (.int .i64 0)).set (i:=3) (by simp) (.int .i64 0)).set (i:=4) (by simp) (.slice none 0 0)).set (i:=5) (by simp) (.slice none 0 0)).far (X:=w.heap.size+1) (i:=0) (by omega) (.int .i64 xl)).far (X:=w.heap.size+1) (i:=1) (by omega) (.int .i64 xc)).drew) (((((((((hP5.far (X:=w.heap.size) (i:=0) (by omega) (.string ⟨#[]⟩)).far (X:=w.heap.size) (i:=1) (by omega) (.int .i64 0)).far (X:=w.heap.size) (i:=2) (by omega) (.int .i64 0)).far (X:=w.heap.size) (i:=3) (by omega) (.int .i64 0)).far (X:=w.heap.size) (i:=4) (by omega) (.slice none 0 0)).far (X:=w.heap.size) (i:=5) (by omega) (.slice none 0 0)).set (i:=0) (by simp) (.int .i64 xl)).set (i:=1) (by simp) (.int .i64 xc)).drew) rfl rfl rfl) rfl ⟨_,rfl,rdC_no _ _,(below_st (below_st (below_st (below_st (below_st (below_st (below_st (below_st hb5 w.heap.size 0 (.string ⟨#[]⟩) (Nat.le_refl _)) w.heap.size 1 (.int .i64 0) (Nat.le_refl _)) w.heap.size 2 (.int .i64 0) (Nat.le_refl _)) w.heap.size 3 (.int .i64 0) (Nat.le_refl _)) w.heap.size 4 (.slice none 0 0) (Nat.le_refl _)) w.heap.size 5 (.slice none 0 0) (Nat.le_refl _)) (w.heap.size+1) 0 (.int .i64 xl) (by omega)) (w.heap.size+1) 1 (.int .i64 xc) (by omega)).drew⟩
end Go.Proofs.YtfjdceknbdmhpaaGreatDoor
/- The texts of ChartDeep, read; the text of awake. Math alone. -/
namespace Go.Proofs.YtfjdceknbdmhpaaGreatDoor
open Go.RowKit Go.Lib
set_option linter.unusedVariables false
end Go.Proofs.YtfjdceknbdmhpaaGreatDoor
/- What awake answers. -/
namespace Go.Proofs.YtfjdceknbdmhpaaGreatDoor
open Go.RowKit Go.Lib
set_option linter.unusedSimpArgs false
set_option linter.unusedVariables false
attribute [local go_sem ↓] Go.wp_at_zero Go.wp_at_succ
/-- A chart's six cells. -/
theorem RdC.lit {ok:Nat→Prop} {w:World} {d:Nat} {c:ChG d} {v:Value} (h:RdC ok w d c v):∃ nv vn ln co va vc sa sc,v=.agg #[.string nv,.int .i64 vn,.int .i64 ln,.int .i64 co,.slice va c.2.2.1.length vc,.slice sa c.2.2.2.length sc]∧RdK ok w 4 (rVar ok w) c.2.2.1 (.slice va c.2.2.1.length vc)∧RdK ok w 11 (rSt d ok w) c.2.2.2 (.slice sa c.2.2.2.length sc):=by
 obtain ⟨sv,ss,rfl,h1,h2⟩:=h
 obtain ⟨va,vc,rfl,_⟩:=h1.form
 obtain ⟨sa,sc,rfl,_⟩:=h2.form
 exact ⟨_,_,_,_,va,vc,sa,sc,rfl,h1,h2⟩
theorem rdC_formB {ok:Nat→Prop} {w:World} {d:Nat} {c:ChG d} {v:Value} (h:RdC ok w d c v):∃ a b e f g h' i j k l,v=.agg #[.string a,.int .i64 b,.int .i64 e,.int .i64 f,.slice g h' i,.slice j k l]:=by
 obtain ⟨sv,ss,rfl,h1,h2⟩:=h
 obtain ⟨a,cap,rfl,_⟩:=h1.form
 obtain ⟨a',cap',rfl,_⟩:=h2.form
 exact ⟨_,_,_,_,_,_,_,_,_,_,rfl⟩
end Go.Proofs.YtfjdceknbdmhpaaGreatDoor
