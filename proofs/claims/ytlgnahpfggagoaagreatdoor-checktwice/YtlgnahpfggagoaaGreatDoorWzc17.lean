import Derived.Test.YtlgnahpfggagoaaGreatDoorWzc16
/- What the program's state does: a step down. -/
namespace Go.Proofs.YtlgnahpfggagoaaGreatDoor
open Go.RowKit Go.Lib
set_option linter.unusedSimpArgs false
set_option linter.unusedVariables false
attribute [local go_sem ↓] Go.wp_at_zero Go.wp_at_succ
theorem Ey.bel {w w':World}{X B:Nat}(h:Ey w X) (hb:Below B w w') (hX:X < B):Ey w' X:=by
 obtain ⟨⟨ev,h1,h2⟩,h3⟩:=h
 exact ⟨⟨ev,(hb.cell (p:=⟨renA.g 15,0,none⟩) (show renA.g 15 < B by omega)).trans h1,h2⟩,h3⟩
theorem Tryz.infoOn:(Tryz.prog.info? 79).map (fun i=>(i.zero,i.size,i.bytes))=some (some (.agg #[.string ⟨#[]⟩,.nilIface,.string ⟨#[]⟩,.slice none 0 0,.int .i64 0,.int .i64 0]),6,88):=by kernel_rfl
theorem Tryz.infoSt:(Tryz.prog.info? 57).map (fun i=>(i.zero,i.size,i.bytes))=some (some (.agg #[.string ⟨#[]⟩,.int .i64 0,.int .i64 0,.bool false,.bool false,.string ⟨#[]⟩,.string ⟨#[]⟩,.int .i64 0,.int .i64 0,.slice none 0 0,.slice none 0 0]),11,136):=by kernel_rfl
set_option maxRecDepth 100000 in
set_option maxHeartbeats 16000000 in
theorem state_step (k:Nat) (hk6:k+1≤6) (IH:StC k):StC (k+1):=by
 intro w X a cap ws fin r dp hdp h hk hE
 obtain ⟨io,hio,hio0,hio1,hio2⟩:=info_parts Tryz.infoOn
 obtain ⟨it,hit,hit0,hit1,hit2⟩:=info_parts Tryz.infoSt
 have hdp1:dp≤6:=by omega
 have hdp2:0≤dp:=by omega
 have hX:=h.lt
 have hlen:=hk.l
 have hbel:Below w.heap.size w ((w.alloc zT11).alloc zT11):=((Below.refl _ _).alloc (Nat.le_refl _) _).alloc (by simp) _
 have hp0:=h.on hbel
 have hE0:=hE.on hbel
 have hA0:Bn ((w.alloc zT11).alloc zT11) w.heap.size zTl:=(Bn.new w zTl 57 _ rfl).on ((Below.refl _ _).alloc (Nat.le_refl _) _)
 have hB0:Bn ((w.alloc zT11).alloc zT11) (w.heap.size+1) zTl:=Bn.new (w.alloc zT11) zTl 57 _ (by simp)
 have hF0:Fx X w ((w.alloc zT11).alloc zT11):=Fx.of hbel (Nat.le_refl _)
 have hs0:w.heap.size+2≤((w.alloc zT11).alloc zT11).heap.size:=by simp
 have e1:(⟨wState.toArray⟩:ByteArray)=⟨#[115,116,97,116,101]⟩:=rfl
 have e2:(⟨wOn.toArray⟩:ByteArray)=⟨#[111,110]⟩:=rfl
 obtain ⟨RES,hRES⟩:∃ x,stP fin (k+1) r=x:=⟨_,rfl⟩
 rw [hRES]
 unfold stP at hRES
 have hM1:=must_any hp0 hk wState
 rw [e1] at hM1
 generalize takeR fin wState r=r1 at *
 have hN:=fun w1 (hp:Pr w1 X a cap ws fin r1)=>pname_any hp hk
 obtain ⟨⟨⟨nm,ln,co⟩,r2⟩,hR1⟩:∃ x,nameR fin r1=x:=⟨_,rfl⟩
 simp only [hR1] at hN hRES
 have hM2:=fun w1 (hp:Pr w1 X a cap ws fin r2)=>must_any hp hk [123]
 generalize takeR fin [123] r2=r3 at *
 obtain ⟨nv,hnv⟩:∃ nv,(⟨nm.toArray⟩:ByteArray)=nv:=⟨_,rfl⟩
 unfold sV at hN
 simp only [hnv] at hN
 have HNV:Hid ((⟨nm.toArray⟩:ByteArray)=nv):=hnv
 have hK:=fun w1 (hp:Pr w1 X a cap ws fin r3) (he:Ey w1 X) (hB:Bn w1 (w.heap.size+1) (stV (.string nv) (.int .i64 ln) (.int .i64 co) zK (.slice none 0 0) (.slice none 0 0)))=>kind_any hp hk he (by omega) hB
 obtain ⟨⟨kd,r4⟩,hR2⟩:∃ x,kindR fin r3=x:=⟨_,rfl⟩
 simp only [hR2] at hK hRES
 obtain ⟨OUT,hOUT⟩:∃ o,inP fin (stP fin k) (r4.1.length+1) [] [] r4=o:=⟨_,rfl⟩
 simp only [hOUT] at hRES
 have HO:Hid (inP fin (stP fin k) (r4.1.length+1) [] [] r4=OUT):=hOUT
 have HRES:Hid (((((nm,ln,co),kd.1,kd.2.1,kd.2.2,OUT.1.1),OUT.1.2),takeR fin [125] OUT.2)=RES):=hRES
 have hM3:=fun w1 q (hp:Pr w1 X a cap ws fin q)=>must_any hp hk [125]
 have hQ:=fun w1 q (hp:Pr w1 X a cap ws fin q)=>skips_any hp hk wOn
 rw [e2] at hQ
 have hSe:=fun w1 q (hp:Pr w1 X a cap ws fin q)=>sees_any hp hk wState
 rw [e1] at hSe
 have hT:=fun w1 q (hp:Pr w1 X a cap ws fin q)=>pon_any hp hk
 have hI:=fun w1 q (hp:Pr w1 X a cap ws fin q) (he:Ey w1 X)=>IH w1 X a cap ws fin q (dp+1) (by omega) hp hk he
 have i9:IntKind.i64.wrap (dp+1)=dp+1:=by rw [IntKind.wrap_i64];omega
 have i1:decide (dp > 6)=false:=decide_eq_false (by omega)
 have i1':¬ 6 < dp:=by omega
 clear hR1 hR2 hRES hOUT hnv hbel h IH
 go_enter Tryz.func77,Tryz.ntmps77
 go_upto_region 4 with fail
 generalize (w.alloc zT11).alloc zT11=w0 at *
 go_upto_region 5 with (first
  | (go_at_call 71;refine hM1.mono ?_;rintro e w3 ⟨⟨u,rfl⟩,hp3,hf3⟩))
 have hA3:=hA0.fx hf3 (by omega)
 have hB3:=hB0.fx hf3 (by omega)
 have hE3:=hE0.fx hf3
 have hF3:=hF0.trans hf3
 have hs3:=Nat.le_trans hs0 hf3.size
 clear hA0 hB0 hp0 hE0 hF0 hs0 hf3 hM1
 go_upto_region 6 with (first
  | (go_at_call 72;refine (hN _ hp3).mono ?_;rintro e w4 ⟨rfl,hp4,hf4⟩;have hA4:=hA3.fx hf4 (by omega);have hB4:=hB3.fx hf4 (by omega);obtain ⟨b0,g0⟩:=hB4 0 _ rfl;obtain ⟨b1,g1⟩:=hB4 1 _ rfl;obtain ⟨b2,g2⟩:=hB4 2 _ rfl))
 have hA5:=((hA4.far (X:=w.heap.size+1) (i:=0) (by omega) (.string nv)).far (X:=w.heap.size+1) (i:=1) (by omega) (.int .i64 ln)).far (X:=w.heap.size+1) (i:=2) (by omega) (.int .i64 co)
 have hB5:Bn _ (w.heap.size+1) (stV (.string nv) (.int .i64 ln) (.int .i64 co) zK (.slice none 0 0) (.slice none 0 0)):=((hB4.set (i:=0) (by simp) (.string nv)).set (i:=1) (by simp) (.int .i64 ln)).set (i:=2) (by simp) (.int .i64 co)
 have hp5:=((hp4.far (Y:=w.heap.size+1) (i:=0) (by omega) (.string nv)).far (Y:=w.heap.size+1) (i:=1) (by omega) (.int .i64 ln)).far (Y:=w.heap.size+1) (i:=2) (by omega) (.int .i64 co)
 have hE5:=(((hE3.fx hf4).far (Y:=w.heap.size+1) (i:=0) (by omega) (.string nv)).far (Y:=w.heap.size+1) (i:=1) (by omega) (.int .i64 ln)).far (Y:=w.heap.size+1) (i:=2) (by omega) (.int .i64 co)
 have hF5:=(((hF3.trans hf4).setN (N:=w.heap.size+1) (i:=0) (by omega) (.string nv)).setN (N:=w.heap.size+1) (i:=1) (by omega) (.int .i64 ln)).setN (N:=w.heap.size+1) (i:=2) (by omega) (.int .i64 co)
 have hs5:w.heap.size+2≤(((w4.setCell ⟨w.heap.size+1,0,none⟩ (.string nv)).setCell ⟨w.heap.size+1,1,none⟩ (.int .i64 ln)).setCell ⟨w.heap.size+1,2,none⟩ (.int .i64 co)).heap.size:=by simpa using Nat.le_trans hs3 hf4.size
 clear hA3 hB3 hp3 hE3 hF3 hA4 hB4 hp4 hf4 b0 g0 b1 g1 b2 g2 hs3 hN
 generalize ((w4.setCell ⟨w.heap.size+1,0,none⟩ (.string nv)).setCell ⟨w.heap.size+1,1,none⟩ (.int .i64 ln)).setCell ⟨w.heap.size+1,2,none⟩ (.int .i64 co)=w5 at *
 go_upto_region 7 with (first
  | (go_at_call 71;refine (hM2 _ hp5).mono ?_;rintro e w6 ⟨⟨u,rfl⟩,hp6,hf6⟩))
 have hA6:=hA5.fx hf6 (by omega)
 have hB6:=Bn.fx (c:=.string nv) hB5 hf6 (by omega)
 have hE6:=hE5.fx hf6
 have hF6:=hF5.trans hf6
 have hs6:=Nat.le_trans hs5 hf6.size
 have hK6:=hK w6 hp6 hE6 hB6
 clear hA5 hB5 hp5 hE5 hF5 hf6 hK hs5 hM2
 go_wp2_with (first
  | (go_at_call 106;refine hK6.mono ?_;rintro e w7 ⟨⟨u,rfl⟩,hp7,hB7,hf7⟩))
 have hA7:=hA6.fy hf7 (by omega) (by omega)
 have hF7:=hF6.andY hf7 (by omega)
 have hs7:=Nat.le_trans hs6 hf7.size
 have hE7:Ey w7 X:=hE.fx hF7
 obtain ⟨kb,ke,kdo,kun,kw,kr,hkd⟩:∃ kb ke kdo kun kw kr,stV (.string nv) (.int .i64 ln) (.int .i64 co) kd=fun so si=>[.string nv,.int .i64 ln,.int .i64 co,.bool kb,.bool ke,.string kdo,.string kun,.int .i64 kw,.int .i64 kr,so,si]:=⟨_,_,_,_,_,_,rfl⟩
 rw [hkd] at hB7
 have HKD:Hid (stV (.string nv) (.int .i64 ln) (.int .i64 co) kd=fun so si=>[.string nv,.int .i64 ln,.int .i64 co,.bool kb,.bool ke,.string kdo,.string kun,.int .i64 kw,.int .i64 kr,so,si]):=hkd
 clear hA6 hB6 hp6 hE6 hF6 hf7 hK6 hs6 hkd hE
 have hl7:=hp7.len
 go_loopw [] (fun wr=>∃ (g:Nat) (os:List OnC) (ss:List (St (k+1))) (q:RsC) (slo sli:Value),Pr wr X a cap ws fin q∧Hid (inP fin (stP fin k) g os ss q=OUT)∧0 < g∧(q.2.2=0→q.1.length < g)∧os.length+ss.length+q.1.length+erq wr X≤3001∧
  Bn wr (w.heap.size+1) [.string nv,.int .i64 ln,.int .i64 co,.bool kb,.bool ke,.string kdo,.string kun,.int .i64 kw,.int .i64 kr,slo,sli]∧OwnB wr (w.heap.size+2) (fun b=>sli.ownBlock=some b) 79 6 rOn slo os∧OwnB wr (w.heap.size+2) (fun b=>slo.ownBlock=some b) 57 11 (rSt (k+1)) sli ss∧Bn wr w.heap.size zTl∧Ey wr X∧Fx X w wr∧w.heap.size+2≤wr.heap.size) (fun wr=>2*(ws.length - nxt wr X)+erq wr X)
 case atStart=>
  have hq:=hp7.erq
  refine ⟨_,[],[],r4,_,_,hp7,HO,Nat.succ_pos _,fun _=>Nat.lt_succ_self _,?_,hB7,ownB_nil _ _ _ _ _ _,ownB_nil _ _ _ _ _ _,hA7,hE7,hF7,hs7⟩
  have:erq w7 X≤1:=by rw [hq];split <;> omega
  simp only [List.length_nil]
  omega
 case round=>
  clear hA7 hB7 hp7 hE7 hF7 hs7 HO
  obtain ⟨g,os,ss,q,slo,sli,hp,ho,hg0,hgl,hal,hB,hOo,hOi,hA,hE,hF,hsz⟩:=hrel
  obtain ⟨g',rfl⟩:∃ g',g=g'+1:=⟨g - 1,by omega⟩
  have hm1:=hp.left
  have hq1:=hp.erq
  have hXb:X < w.heap.size+2:=by omega
  obtain ⟨va,vc,rfl,hvl,hvm⟩:=hOo.form
  obtain ⟨ua,uc,rfl,hul,hum⟩:=hOi.form
  have hQ1:=hQ _ _ hp
  cases hi1:isC wOn q with
  | true=>
   rw [hi1,skR_yes hi1] at hQ1
   have hout:=ho.out
   rw [show inP fin (stP fin k) (g'+1) os ss q=inP fin (stP fin k) g' (os++[(onR fin q).1]) ss (onR fin q).2 from by show (if isC wOn q=true then _ else _)=_;rw [if_pos hi1],on_1] at hout
   have hT1:=fun w1 (hp:Pr w1 X a cap ws fin (takeR fin wOn q))=>hT w1 _ hp
   have hlt:=on_less (fin:=fin) hi1
   have hlt0:=(isC_cons hi1).1
   rw [on_1] at hlt
   rw [if_pos hlt0] at hq1
   generalize takeR fin wOn q=q1 at *
   obtain ⟨⟨o1,q2⟩,hS1⟩:∃ x,on1R fin q1=x:=⟨_,rfl⟩
   simp only [hS1] at hT1 hout hlt
   have HOUT:Hid (inP fin (stP fin k) g' (os++[o1]) ss q2=OUT):=hout
   have hgf:=gdV_form o1.2.1
   obtain ⟨ev,gv,tg,ol,oc,hov⟩:∃ ev gv tg ol oc,(onV o1=fun sl=>[.string ev,gv,.string tg,sl,.int .i64 ol,.int .i64 oc])∧gdV o1.2.1=gv:=⟨_,_,_,_,_,rfl,rfl⟩
   rw [hov.2] at hgf
   have hT2:∀ w1,Pr w1 X a cap ws fin q1→Calls Tryz.prog 107 #[.pointer (some ⟨X,0,none⟩)] w1 fun e w'=>(∃ sl,e=.returned (.agg #[.string ev,gv,.string tg,sl,.int .i64 ol,.int .i64 oc])∧rOn (fun b=>w1.heap.size≤b) w' o1 [.string ev,gv,.string tg,sl,.int .i64 ol,.int .i64 oc]∧∃ sa sn sc,sl=.slice sa sn sc)∧Pr w' X a cap ws fin q2∧Fx X w1 w':=fun w1 hp1=>(hT1 w1 hp1).mono (fun e w' hh=>by
    obtain ⟨⟨cs,h1,sl,h2,h3⟩,h4,h5⟩:=hh
    refine ⟨⟨sl,?_,⟨sl,?_,h3⟩,?_⟩,h4,h5⟩
    ·rw [h1,h2,hov.1]
    ·rw [hov.1]
    ·obtain ⟨sa,sc,e,_⟩:=h3.form;exact ⟨_,_,_,e⟩)
   clear hS1 hout hT1 ho hov hT hI hSe hM3
   go_upto_region 11 with (first
    | (go_at_call 74;refine hQ1.mono ?_;rintro e w9 ⟨rfl,hp9,hf9⟩))
   have hB9:=hB.fx hf9 (by omega)
   have hA9:=hA.fx hf9 (by omega)
   have hOo9:=hOo.fx kp_on hf9 hXb
   have hOi9:=hOi.fx (kp_st _) hf9 hXb
   have hE9:=hE.fx hf9
   have hF9:=hF.trans hf9
   have hs9:=Nat.le_trans hsz hf9.size
   have hp9d:=hp9.on ((Below.refl w9.heap.size w9).drew)
   clear hB hA hOo hOi hE hF hf9 hsz hp hQ1 hp9
   obtain ⟨k3,z3⟩:=hB9 9 _ rfl
   rcases hgf with rfl | ⟨xu,xy,rfl⟩
   ·go_region_law (first
     | (refine step_pushB wa rfl _ _ 55 rfl (w.heap.size+2) (fun b=>(Value.slice ua ss.length uc).ownBlock=some b) 79 io (.agg #[.string ⟨#[]⟩,.nilIface,.string ⟨#[]⟩,.slice none 0 0,.int .i64 0,.int .i64 0]) 6 88 Tryz.underlying55 hio hio0 hio1 hio2 rfl kp_on (.slice va os.length vc) os o1 [.string ev,.nilIface,.string tg,.slice sa sn sc,.int .i64 ol,.int .i64 oc] w9.heap.size rfl rfl rfl (by simp [Value.oneCell']) hOoa hra hs9 (fun x hx=>(hOo9.lt x hx).2) (fun b hb=>⟨(hOi9.lt b hb).2,(hOia.lt b hb).2⟩) (by omega) (by unfold maxLen;omega) hsa ?_;intro vb wb hOb hgb hbb hat;have hBb:=hBa.blk (hbb.block _ (by omega));have hAb:=hAa.blk (hbb.block _ (by omega));have hpb:=hpa.belowB hbb (by omega);have hEb:=hEa.bel hbb (by omega);have hFb:=hFa.andB hbb (by omega);have hOib:=(hOia.on (kp_st _) hali).other (kp_st _) hgb hat;obtain ⟨m5,n5⟩:=hBb 9 _ rfl;obtain ⟨vba,vbc,hvb,hvbl,hvbm⟩:=hOb.form;rw [List.length_append,List.length_singleton] at hvb;subst hvb)
     | (go_simp;(with_reducible refine (hT2 _ hp9d).mono ?_);rintro e wa ⟨⟨sl,rfl,hra,sa,sn,sc,rfl⟩,hpa,hfa⟩;have hfa':=((Fx.refl X w9).drew).trans hfa;have hBa:=hB9.fx hfa' (by omega);have hAa:=hA9.fx hfa' (by omega);have hOoa:=hOo9.fx kp_on hfa' hXb;have hOia:=hOi9.fx (kp_st _) hfa' hXb;have hEa:=hE9.fx hfa';have hFa:=hF9.trans hfa';have hsa:=Nat.le_trans hs9 hfa'.size;obtain ⟨m3,n3⟩:=hBa 9 _ rfl;have hali:=(Below.refl wa.heap.size wa).alloc (Nat.le_refl _) (.cells #[.string ev,.nilIface,.string tg,.slice sa sn sc,.int .i64 ol,.int .i64 oc] 79);have m4:=((hBa.on hali) 9 _ rfl).1))
    all_goals (
     have hBc:=hBb.set (i:=9) (by simp) (.slice vba (os.length+1) vbc)
     have hAc:=hAb.far (X:=w.heap.size+1) (i:=9) (by omega) (.slice vba (os.length+1) vbc)
     have hOoc:=hOb.set kp_on (X:=w.heap.size+1) (i:=9) (by omega) (.slice vba (os.length+1) vbc)
     have hOic:=hOib.set (kp_st _) (X:=w.heap.size+1) (i:=9) (by omega) (.slice vba (os.length+1) vbc)
     have hpc:=hpb.far (Y:=w.heap.size+1) (i:=9) (by omega) (.slice vba (os.length+1) vbc)
     have hEc:=hEb.far (Y:=w.heap.size+1) (i:=9) (by omega) (.slice vba (os.length+1) vbc)
     have hFc:=hFb.setN (N:=w.heap.size+1) (i:=9) (by omega) (.slice vba (os.length+1) vbc)
     have hsc:w.heap.size+2≤(wb.setCell ⟨w.heap.size+1,9,none⟩ (.slice vba (os.length+1) vbc)).heap.size:=by simpa using Nat.le_trans hsa hbb.size
     have hm2:=hpc.left
     have hq2:=hpc.erq
     have hq3:erq (wb.setCell ⟨w.heap.size+1,9,none⟩ (.slice vba (os.length+1) vbc)) X≤1:=by rw [hq2];split <;> omega
     have hlc:(os++[o1]).length=os.length+1:=by simp
     have hgl2:=hgl hlt0
     clear hBa hAa hOoa hOia hpa hEa hFa hfa hfa' hsa m3 n3 hali m4 hBb hAb hOb hOib hpb hEb hFb hgb hbb hat k3 z3 hra hq2
     go_wp2
     go_roundw
     case rel=>exact ⟨g',os++[o1],ss,q2,_,_,hpc,HOUT,by omega,fun _=>by omega,by omega,hBc,hOoc,hOic,hAc,hEc,hFc,hsc⟩
     case measure=>omega)
   ·go_region_law (first
     | (refine step_pushB wa rfl _ _ 55 rfl (w.heap.size+2) (fun b=>(Value.slice ua ss.length uc).ownBlock=some b) 79 io (.agg #[.string ⟨#[]⟩,.nilIface,.string ⟨#[]⟩,.slice none 0 0,.int .i64 0,.int .i64 0]) 6 88 Tryz.underlying55 hio hio0 hio1 hio2 rfl kp_on (.slice va os.length vc) os o1 [.string ev,(.iface xu xy),.string tg,.slice sa sn sc,.int .i64 ol,.int .i64 oc] w9.heap.size rfl rfl rfl (by simp [Value.oneCell']) hOoa hra hs9 (fun x hx=>(hOo9.lt x hx).2) (fun b hb=>⟨(hOi9.lt b hb).2,(hOia.lt b hb).2⟩) (by omega) (by unfold maxLen;omega) hsa ?_;intro vb wb hOb hgb hbb hat;have hBb:=hBa.blk (hbb.block _ (by omega));have hAb:=hAa.blk (hbb.block _ (by omega));have hpb:=hpa.belowB hbb (by omega);have hEb:=hEa.bel hbb (by omega);have hFb:=hFa.andB hbb (by omega);have hOib:=(hOia.on (kp_st _) hali).other (kp_st _) hgb hat;obtain ⟨m5,n5⟩:=hBb 9 _ rfl;obtain ⟨vba,vbc,hvb,hvbl,hvbm⟩:=hOb.form;rw [List.length_append,List.length_singleton] at hvb;subst hvb)
     | (go_simp;(with_reducible refine (hT2 _ hp9d).mono ?_);rintro e wa ⟨⟨sl,rfl,hra,sa,sn,sc,rfl⟩,hpa,hfa⟩;have hfa':=((Fx.refl X w9).drew).trans hfa;have hBa:=hB9.fx hfa' (by omega);have hAa:=hA9.fx hfa' (by omega);have hOoa:=hOo9.fx kp_on hfa' hXb;have hOia:=hOi9.fx (kp_st _) hfa' hXb;have hEa:=hE9.fx hfa';have hFa:=hF9.trans hfa';have hsa:=Nat.le_trans hs9 hfa'.size;obtain ⟨m3,n3⟩:=hBa 9 _ rfl;have hali:=(Below.refl wa.heap.size wa).alloc (Nat.le_refl _) (.cells #[.string ev,(.iface xu xy),.string tg,.slice sa sn sc,.int .i64 ol,.int .i64 oc] 79);have m4:=((hBa.on hali) 9 _ rfl).1))
    all_goals (
     have hBc:=hBb.set (i:=9) (by simp) (.slice vba (os.length+1) vbc)
     have hAc:=hAb.far (X:=w.heap.size+1) (i:=9) (by omega) (.slice vba (os.length+1) vbc)
     have hOoc:=hOb.set kp_on (X:=w.heap.size+1) (i:=9) (by omega) (.slice vba (os.length+1) vbc)
     have hOic:=hOib.set (kp_st _) (X:=w.heap.size+1) (i:=9) (by omega) (.slice vba (os.length+1) vbc)
     have hpc:=hpb.far (Y:=w.heap.size+1) (i:=9) (by omega) (.slice vba (os.length+1) vbc)
     have hEc:=hEb.far (Y:=w.heap.size+1) (i:=9) (by omega) (.slice vba (os.length+1) vbc)
     have hFc:=hFb.setN (N:=w.heap.size+1) (i:=9) (by omega) (.slice vba (os.length+1) vbc)
     have hsc:w.heap.size+2≤(wb.setCell ⟨w.heap.size+1,9,none⟩ (.slice vba (os.length+1) vbc)).heap.size:=by simpa using Nat.le_trans hsa hbb.size
     have hm2:=hpc.left
     have hq2:=hpc.erq
     have hq3:erq (wb.setCell ⟨w.heap.size+1,9,none⟩ (.slice vba (os.length+1) vbc)) X≤1:=by rw [hq2];split <;> omega
     have hlc:(os++[o1]).length=os.length+1:=by simp
     have hgl2:=hgl hlt0
     clear hBa hAa hOoa hOia hpa hEa hFa hfa hfa' hsa m3 n3 hali m4 hBb hAb hOb hOib hpb hEb hFb hgb hbb hat k3 z3 hra hq2
     go_wp2
     go_roundw
     case rel=>exact ⟨g',os++[o1],ss,q2,_,_,hpc,HOUT,by omega,fun _=>by omega,by omega,hBc,hOoc,hOic,hAc,hEc,hFc,hsc⟩
     case measure=>omega)
  | false=>
   rw [hi1,skR_no hi1] at hQ1
   have hS1:=fun w1 (hp:Pr w1 X a cap ws fin q)=>hSe w1 q hp
   cases hi2:isC wState q with
   | true=>
    rw [hi2] at hS1
    have hout:=ho.out
    rw [show inP fin (stP fin k) (g'+1) os ss q=inP fin (stP fin k) g' os (ss++[(stP fin k q).1]) (stP fin k q).2 from by show (if isC wOn q=true then _ else if isC wState q=true then _ else _)=_;rw [hi1,hi2,if_neg (by decide),if_pos rfl]] at hout
    have hI1:=fun w1 (hp:Pr w1 X a cap ws fin q) (he:Ey w1 X)=>hI w1 q hp he
    have hgo:=goesP_st fin k hi2
    have hlt0:=(isC_cons hi2).1
    have hlt1:1≤q.1.length:=by obtain ⟨x,l,hx⟩:=(isC_cons hi2).2;rw [hx];simp
    rw [if_pos hlt0] at hq1
    obtain ⟨⟨s1,q2⟩,hS⟩:∃ x,stP fin k q=x:=⟨_,rfl⟩
    simp only [hS] at hI1 hout hgo
    have HOUT:Hid (inP fin (stP fin k) g' os (ss++[s1]) q2=OUT):=hout
    obtain ⟨sn,sl,sc,sb,se,sd,su,sw,sr,hsv⟩:∃ sn sl sc sb se sd su sw sr,hdV s1.1=fun so si=>[.string sn,.int .i64 sl,.int .i64 sc,.bool sb,.bool se,.string sd,.string su,.int .i64 sw,.int .i64 sr,so,si]:=⟨_,_,_,_,_,_,_,_,_,rfl⟩
    have hI2:∀ w1,Pr w1 X a cap ws fin q→Ey w1 X→Calls Tryz.prog 77 #[.pointer (some ⟨X,0,none⟩),.int .i64 (dp+1)] w1 fun e w'=>(∃ so si,e=.returned (.agg #[.string sn,.int .i64 sl,.int .i64 sc,.bool sb,.bool se,.string sd,.string su,.int .i64 sw,.int .i64 sr,so,si])∧rSt (k+1) (fun b=>w1.heap.size≤b) w' s1 [.string sn,.int .i64 sl,.int .i64 sc,.bool sb,.bool se,.string sd,.string su,.int .i64 sw,.int .i64 sr,so,si]∧(∃ p1 p2 p3,so=.slice p1 p2 p3)∧∃ p1 p2 p3,si=.slice p1 p2 p3)∧Pr w' X a cap ws fin q2∧Fx X w1 w':=fun w1 hp1 he1=>(hI1 w1 hp1 he1).mono (fun e w' hh=>by
     obtain ⟨⟨cs,h1,so,si,h2,h3,h4⟩,h5,h6⟩:=hh
     refine ⟨⟨so,si,?_,⟨so,si,?_,h3,h4⟩,?_,?_⟩,h5,h6⟩
     ·rw [h1,h2,hsv]
     ·rw [hsv]
     ·obtain ⟨p1,p3,e,_⟩:=h3.form;exact ⟨_,_,_,e⟩
     ·obtain ⟨p1,p3,e,_⟩:=h4.form;exact ⟨_,_,_,e⟩)
    clear hS hout hI1 ho hsv hT hI hSe hM3
    go_upto_region 12 with (first
     | (go_at_call 74;refine hQ1.mono ?_;rintro e w8 ⟨rfl,hp8,hf8⟩))
    go_upto_region 13 with (first
     | (go_at_call 76;refine (hS1 _ hp8).mono ?_;rintro e w9 ⟨rfl,m9,rfl⟩))
    have hp9:=hp8.on (draws w8 m9)
    have hf9:=hf8.drewN m9
    have hB9:=hB.fx hf9 (by omega)
    have hA9:=hA.fx hf9 (by omega)
    have hOo9:=hOo.fx kp_on hf9 hXb
    have hOi9:=hOi.fx (kp_st _) hf9 hXb
    have hE9:=hE.fx hf9
    have hF9:=hF.trans hf9
    have hs9:w.heap.size+2≤(w8.drewN m9).heap.size:=Nat.le_trans hsz hf9.size
    clear hp8 hf8 hB hA hF hf9 hp hOo hOi hE hQ1 hS1 hsz
    generalize w8.drewN m9=w9 at *
    have hdr:Below w9.heap.size w9 w9.drew:=(Below.refl _ _).drew
    have hpA:=hp9.on hdr
    have hEA:=hE9.on hdr
    obtain ⟨k3,z3⟩:=hB9 10 _ rfl
    have i5:(ss.length:Int) < (ss.length:Int)+1:=by omega
    have i6:(0:Int)≤(ss.length:Int):=by omega
    have hal1:Below w9.heap.size w9 (w9.alloc zT11).drew:=((Below.refl _ _).alloc (Nat.le_refl _) _).drew
    have hpB:=hp9.on hal1
    have hEB:=hE9.on hal1
    have kB:=((hB9.on hal1) 10 _ rfl).1
    have hcB:∀ j u,zTl[j]?=some u→(w9.alloc zT11).drew.cell? ((⟨w9.heap.size,0,none⟩:Addr).add j)=some u:=cells_new (w:=w9)
    have hlB:w9.heap.size < (w9.alloc zT11).drew.heap.size:=by simp
    go_region_law (first
     | (refine step_zero wa wa (Below.refl _ _) rfl _ _ 32 rfl (w.heap.size+2) (fun b=>(Value.slice va os.length vc).ownBlock=some b) 57 it (.agg #[.string ⟨#[]⟩,.int .i64 0,.int .i64 0,.bool false,.bool false,.string ⟨#[]⟩,.string ⟨#[]⟩,.int .i64 0,.int .i64 0,.slice none 0 0,.slice none 0 0]) 11 136 Tryz.underlying32 hit hit0 hit1 hit2 rfl (kp_st _) (.slice ua ss.length uc) ss s1 [.string sn,.int .i64 sl,.int .i64 sc,.bool sb,.bool se,.string sd,.string su,.int .i64 sw,.int .i64 sr,.slice p1 p2 p3,.slice p4 p5 p6] zTl _ w9.heap.size rfl rfl (Src.ofSlice _ Tryz.underlying32 ⟨w9.heap.size,0,none⟩ 1 1 zTl rfl hcQ (by simp [Value.oneCell'])) hOia hra' hs9 (fun x hx=>(hOi9.lt x hx).2) (fun b hb=>⟨(hOo9.lt b hb).2,(hOoa.lt b hb).2⟩) (by omega) (by unfold maxLen;omega) hsa ?_;intro g9 c9 wb hgc hgm hZ hcs hgb hbb hat;have hBb:=hBa.blk (hbb.block _ (by omega));have hAb:=hAa.blk (hbb.block _ (by omega));have hpb:=hpa.belowB hbb (by omega);have hEb:=hEa.bel hbb (by omega);have hFb:=hFa.andB hbb (by omega);have hOob:=(hOoa.on kp_on (Below.refl _ _)).other kp_on hgb hat;obtain ⟨m5,n5⟩:=hBb 10 _ rfl;have hg9:=hZ.1;obtain ⟨d0,t0⟩:=hZ.cells 0 _ rfl;obtain ⟨d1,t1⟩:=hZ.cells 1 _ rfl;obtain ⟨d2,t2⟩:=hZ.cells 2 _ rfl;obtain ⟨d3,t3⟩:=hZ.cells 3 _ rfl;obtain ⟨d4,t4⟩:=hZ.cells 4 _ rfl;obtain ⟨d5,t5⟩:=hZ.cells 5 _ rfl;obtain ⟨d6,t6⟩:=hZ.cells 6 _ rfl;obtain ⟨d7,t7⟩:=hZ.cells 7 _ rfl;obtain ⟨d8,t8⟩:=hZ.cells 8 _ rfl;obtain ⟨d9,t9⟩:=hZ.cells 9 _ rfl;obtain ⟨d10,t10⟩:=hZ.cells 10 _ rfl;rw [Nat.add_zero] at d0 t0;have hgS:¬ g9=w.heap.size+1:=(by omega);have hgS':¬ w.heap.size+1=g9:=(by omega))
     | (refine step_zero wa (wa.alloc zT11) hali rfl _ _ 32 rfl (w.heap.size+2) (fun b=>(Value.slice va os.length vc).ownBlock=some b) 57 it (.agg #[.string ⟨#[]⟩,.int .i64 0,.int .i64 0,.bool false,.bool false,.string ⟨#[]⟩,.string ⟨#[]⟩,.int .i64 0,.int .i64 0,.slice none 0 0,.slice none 0 0]) 11 136 Tryz.underlying32 hit hit0 hit1 hit2 rfl (kp_st _) (.slice ua ss.length uc) ss s1 [.string sn,.int .i64 sl,.int .i64 sc,.bool sb,.bool se,.string sd,.string su,.int .i64 sw,.int .i64 sr,.slice p1 p2 p3,.slice p4 p5 p6] zTl _ w9.heap.size rfl rfl (src_row Tryz.underlying32 wa zTl rfl (by simp [Value.oneCell'])) hOia hra' hs9 (fun x hx=>(hOi9.lt x hx).2) (fun b hb=>⟨(hOo9.lt b hb).2,(hOoa.lt b hb).2⟩) (by omega) (by unfold maxLen;omega) hsa ?_;intro g9 c9 wb hgc hgm hZ hcs hgb hbb hat;have hBb:=hBa.blk (hbb.block _ (by omega));have hAb:=hAa.blk (hbb.block _ (by omega));have hpb:=hpa.belowB hbb (by omega);have hEb:=hEa.bel hbb (by omega);have hFb:=hFa.andB hbb (by omega);have hOob:=(hOoa.on kp_on hali).other kp_on hgb hat;obtain ⟨m5,n5⟩:=hBb 10 _ rfl;have hg9:=hZ.1;obtain ⟨d0,t0⟩:=hZ.cells 0 _ rfl;obtain ⟨d1,t1⟩:=hZ.cells 1 _ rfl;obtain ⟨d2,t2⟩:=hZ.cells 2 _ rfl;obtain ⟨d3,t3⟩:=hZ.cells 3 _ rfl;obtain ⟨d4,t4⟩:=hZ.cells 4 _ rfl;obtain ⟨d5,t5⟩:=hZ.cells 5 _ rfl;obtain ⟨d6,t6⟩:=hZ.cells 6 _ rfl;obtain ⟨d7,t7⟩:=hZ.cells 7 _ rfl;obtain ⟨d8,t8⟩:=hZ.cells 8 _ rfl;obtain ⟨d9,t9⟩:=hZ.cells 9 _ rfl;obtain ⟨d10,t10⟩:=hZ.cells 10 _ rfl;rw [Nat.add_zero] at d0 t0;have hgS:¬ g9=w.heap.size+1:=(by omega);have hgS':¬ w.heap.size+1=g9:=(by omega))
     | (go_simp;(with_reducible refine (hI2 _ hpA hEA).mono ?_);rintro e wa ⟨⟨so,si,rfl,hra,⟨p1,p2,p3,rfl⟩,p4,p5,p6,rfl⟩,hpa,hfa⟩;have hfa':Fx X w9 wa:=((Fx.refl X w9).drew).trans hfa;have hra':rSt (k+1) (fun b=>w9.heap.size≤b) wa s1 [.string sn,.int .i64 sl,.int .i64 sc,.bool sb,.bool se,.string sd,.string su,.int .i64 sw,.int .i64 sr,.slice p1 p2 p3,.slice p4 p5 p6]:=kp_st _ hra (fun b hb _=>⟨by have hb':=hb;simp at hb';omega,rfl⟩);have hBa:=hB9.fx hfa' (by omega);have hAa:=hA9.fx hfa' (by omega);have hOoa:=hOo9.fx kp_on hfa' hXb;have hOia:=hOi9.fx (kp_st _) hfa' hXb;have hEa:=hE9.fx hfa';have hFa:=hF9.trans hfa';have hsa:=Nat.le_trans hs9 hfa'.size;obtain ⟨m3,n3⟩:=hBa 10 _ rfl;have hali:=(Below.refl wa.heap.size wa).alloc (Nat.le_refl _) zT11;have m4:=((hBa.on hali) 10 _ rfl).1)
     | (go_simp;(with_reducible refine (hI2 _ hpB hEB).mono ?_);rintro e wa ⟨⟨so,si,rfl,hra,⟨p1,p2,p3,rfl⟩,p4,p5,p6,rfl⟩,hpa,hfa⟩;have hfa':Fx X w9 wa:=(Fx.of hal1 (Nat.le_refl _)).trans hfa;have hra':rSt (k+1) (fun b=>w9.heap.size≤b) wa s1 [.string sn,.int .i64 sl,.int .i64 sc,.bool sb,.bool se,.string sd,.string su,.int .i64 sw,.int .i64 sr,.slice p1 p2 p3,.slice p4 p5 p6]:=kp_st _ hra (fun b hb _=>⟨by have hb':=hb;simp at hb';omega,rfl⟩);have hBa:=hB9.fx hfa' (by omega);have hAa:=hA9.fx hfa' (by omega);have hOoa:=hOo9.fx kp_on hfa' hXb;have hOia:=hOi9.fx (kp_st _) hfa' hXb;have hEa:=hE9.fx hfa';have hFa:=hF9.trans hfa';have hsa:=Nat.le_trans hs9 hfa'.size;obtain ⟨m3,n3⟩:=hBa 10 _ rfl;have hali:=(Below.refl wa.heap.size wa).alloc (Nat.le_refl _) zT11;have m4:=((hBa.on hali) 10 _ rfl).1;have hcQ:∀ j u,zTl[j]?=some u→wa.cell? ((⟨w9.heap.size,0,none⟩:Addr).add j)=some u:=(fun j u hu=>keep_cell (by rw [add_block];exact hfa.block _ hlB (fun e=>by have:w9.heap.size=X:=Option.some.inj e;omega)) (hcB j u hu)))
     | fail)
    all_goals (
     have hput:(((((((((((wb.setCell ⟨g9,ss.length*11,none⟩ (.string sn)).setCell ⟨g9,ss.length*11+1,none⟩ (.int .i64 sl)).setCell ⟨g9,ss.length*11+2,none⟩ (.int .i64 sc)).setCell ⟨g9,ss.length*11+3,none⟩ (.bool sb)).setCell ⟨g9,ss.length*11+4,none⟩ (.bool se)).setCell ⟨g9,ss.length*11+5,none⟩ (.string sd)).setCell ⟨g9,ss.length*11+6,none⟩ (.string su)).setCell ⟨g9,ss.length*11+7,none⟩ (.int .i64 sw)).setCell ⟨g9,ss.length*11+8,none⟩ (.int .i64 sr)).setCell ⟨g9,ss.length*11+9,none⟩ (.slice p1 p2 p3)).setCell ⟨g9,ss.length*11+10,none⟩ (.slice p4 p5 p6))=putL wb g9 (ss.length*11) [.string sn,.int .i64 sl,.int .i64 sc,.bool sb,.bool se,.string sd,.string su,.int .i64 sw,.int .i64 sr,.slice p1 p2 p3,.slice p4 p5 p6]:=rfl
     have hput2:((((((((((((wb.setCell ⟨w.heap.size+1,10,none⟩ (.slice (some ⟨g9,0,none⟩) (ss.length+1) c9)).setCell ⟨g9,ss.length*11,none⟩ (.string sn)).setCell ⟨g9,ss.length*11+1,none⟩ (.int .i64 sl)).setCell ⟨g9,ss.length*11+2,none⟩ (.int .i64 sc)).setCell ⟨g9,ss.length*11+3,none⟩ (.bool sb)).setCell ⟨g9,ss.length*11+4,none⟩ (.bool se)).setCell ⟨g9,ss.length*11+5,none⟩ (.string sd)).setCell ⟨g9,ss.length*11+6,none⟩ (.string su)).setCell ⟨g9,ss.length*11+7,none⟩ (.int .i64 sw)).setCell ⟨g9,ss.length*11+8,none⟩ (.int .i64 sr)).setCell ⟨g9,ss.length*11+9,none⟩ (.slice p1 p2 p3)).setCell ⟨g9,ss.length*11+10,none⟩ (.slice p4 p5 p6))=(putL wb g9 (ss.length*11) [.string sn,.int .i64 sl,.int .i64 sc,.bool sb,.bool se,.string sd,.string su,.int .i64 sw,.int .i64 sr,.slice p1 p2 p3,.slice p4 p5 p6]).setCell ⟨w.heap.size+1,10,none⟩ (.slice (some ⟨g9,0,none⟩) (ss.length+1) c9):=putL_far g9 (w.heap.size+1) 10 (.slice (some ⟨g9,0,none⟩) (ss.length+1) c9) hgS' [.string sn,.int .i64 sl,.int .i64 sc,.bool sb,.bool se,.string sd,.string su,.int .i64 sw,.int .i64 sr,.slice p1 p2 p3,.slice p4 p5 p6] wb (ss.length*11)
     have hOiq:=hZ.put (kp_st _) rfl rfl hcs
     have hbq:Below (w.heap.size+2) wb (putL wb g9 (ss.length*11) [.string sn,.int .i64 sl,.int .i64 sc,.bool sb,.bool se,.string sd,.string su,.int .i64 sw,.int .i64 sr,.slice p1 p2 p3,.slice p4 p5 p6]):=putL_below [.string sn,.int .i64 sl,.int .i64 sc,.bool sb,.bool se,.string sd,.string su,.int .i64 sw,.int .i64 sr,.slice p1 p2 p3,.slice p4 p5 p6] wb g9 _ (Below.refl _ _) hg9
     have hBq:=hBb.blk (putL_heap [.string sn,.int .i64 sl,.int .i64 sc,.bool sb,.bool se,.string sd,.string su,.int .i64 sw,.int .i64 sr,.slice p1 p2 p3,.slice p4 p5 p6] wb g9 (ss.length*11) (w.heap.size+1) hgS')
     have hAq:=hAb.blk (putL_heap [.string sn,.int .i64 sl,.int .i64 sc,.bool sb,.bool se,.string sd,.string su,.int .i64 sw,.int .i64 sr,.slice p1 p2 p3,.slice p4 p5 p6] wb g9 (ss.length*11) w.heap.size (by omega))
     have hpq:=hpb.belowB hbq (by omega)
     have hEq:=hEb.bel hbq (by omega)
     have hFq:=hFb.andB hbq (by omega)
     have hOoq:=hOob.keep (w':=putL wb g9 (ss.length*11) [.string sn,.int .i64 sl,.int .i64 sc,.bool sb,.bool se,.string sd,.string su,.int .i64 sw,.int .i64 sr,.slice p1 p2 p3,.slice p4 p5 p6]) kp_on (fun b hb hbad hlt=>⟨putL_heap [.string sn,.int .i64 sl,.int .i64 sc,.bool sb,.bool se,.string sd,.string su,.int .i64 sw,.int .i64 sr,.slice p1 p2 p3,.slice p4 p5 p6] wb g9 (ss.length*11) b (fun e=>hbad (by rw [e];rfl)),hbad⟩)
     have hsq:w.heap.size+2≤(putL wb g9 (ss.length*11) [.string sn,.int .i64 sl,.int .i64 sc,.bool sb,.bool se,.string sd,.string su,.int .i64 sw,.int .i64 sr,.slice p1 p2 p3,.slice p4 p5 p6]).heap.size:=Nat.le_trans (Nat.le_trans hsa hbb.size) hbq.size
     first
      | rw [hput]
      | rw [hput2]
     clear hput hput2 hZ hcs hBb hAb hpb hEb hFb hOob hgb hbb hat m5 n5 d0 d1 d2 d3 d4 d5 d6 d7 d8 d9 d10 t0 t1 t2 t3 t4 t5 t6 t7 t8 t9 t10 hBa hAa hOoa hOia hpa hEa hFa hfa hfa' hsa m3 n3 hali m4 hra hra' hbq
     generalize putL wb g9 (ss.length*11) [.string sn,.int .i64 sl,.int .i64 sc,.bool sb,.bool se,.string sd,.string su,.int .i64 sw,.int .i64 sr,.slice p1 p2 p3,.slice p4 p5 p6]=wq at *
     have hBc:=hBq.set (i:=10) (by simp) (.slice (some ⟨g9,0,none⟩) (ss.length+1) c9)
     have hAc:=hAq.far (X:=w.heap.size+1) (i:=10) (by omega) (.slice (some ⟨g9,0,none⟩) (ss.length+1) c9)
     have hOoc:=hOoq.set kp_on (X:=w.heap.size+1) (i:=10) (by omega) (.slice (some ⟨g9,0,none⟩) (ss.length+1) c9)
     have hOic:=hOiq.set (kp_st _) (X:=w.heap.size+1) (i:=10) (by omega) (.slice (some ⟨g9,0,none⟩) (ss.length+1) c9)
     have hpc:=hpq.far (Y:=w.heap.size+1) (i:=10) (by omega) (.slice (some ⟨g9,0,none⟩) (ss.length+1) c9)
     have hEc:=hEq.far (Y:=w.heap.size+1) (i:=10) (by omega) (.slice (some ⟨g9,0,none⟩) (ss.length+1) c9)
     have hFc:=hFq.setN (N:=w.heap.size+1) (i:=10) (by omega) (.slice (some ⟨g9,0,none⟩) (ss.length+1) c9)
     have hsc:w.heap.size+2≤(wq.setCell ⟨w.heap.size+1,10,none⟩ (.slice (some ⟨g9,0,none⟩) (ss.length+1) c9)).heap.size:=by simpa using hsq
     have hm2:=hpc.left
     have hq2:=hpc.erq
     have hlc:(ss++[s1]).length=ss.length+1:=by simp
     have hgl2:=hgl hlt0
     obtain ⟨hgo1,hgo2⟩:=hgo
     have hgo3:=hgo1.1
     have hmq:q2.1.length+erq (wq.setCell ⟨w.heap.size+1,10,none⟩ (.slice (some ⟨g9,0,none⟩) (ss.length+1) c9)) X≤q.1.length∧2*q2.1.length+erq (wq.setCell ⟨w.heap.size+1,10,none⟩ (.slice (some ⟨g9,0,none⟩) (ss.length+1) c9)) X < 2*q.1.length+1:=by
      rw [hq2]
      by_cases hz:q2.2.2=0
      ·rw [if_pos hz];have:=hgo2 hz;omega
      ·rw [if_neg hz];omega
     have hgq:0 < g'∧(q2.2.2=0→q2.1.length < g'):=⟨by omega,fun hz=>by have:=hgo2 hz;omega⟩
     clear hBq hAq hOoq hOiq hpq hEq hFq hsq k3 z3 kB hpA hEA hpB hEB hcB hlB hal1 hdr hB9 hA9 hOo9 hOi9 hE9 hF9 hs9 hp9 hq2 hgo1 hgo2
     go_wp2
     go_roundw
     case rel=>exact ⟨g',os,ss++[s1],q2,_,_,hpc,HOUT,hgq.1,hgq.2,by omega,hBc,hOoc,hOic,hAc,hEc,hFc,hsc⟩
     case measure=>omega)
   | false=>
    have hS2:=hS1
    rw [hi2] at hS2
    have hout:=ho.out
    rw [show inP fin (stP fin k) (g'+1) os ss q=((os,ss),q) from by show (if isC wOn q=true then _ else if isC wState q=true then _ else _)=_;rw [hi1,hi2,if_neg (by decide),if_neg (by decide)]] at hout
    have HOUT:Hid (((os,ss),q)=OUT):=hout
    have hM4:=fun w1 (hp:Pr w1 X a cap ws fin q)=>hM3 w1 _ hp
    clear hout ho hT hI hSe hM3 hS1
    go_upto_region 12 with (first
     | (go_at_call 74;refine hQ1.mono ?_;rintro e w8 ⟨rfl,hp8,hf8⟩))
    go_upto_region 8 with (first
     | (go_at_call 76;refine (hS2 _ hp8).mono ?_;rintro e w9 ⟨rfl,m9,rfl⟩))
    have hp9:=hp8.on (draws w8 m9)
    have hf9:=hf8.drewN m9
    have hB9:=hB.fx hf9 (by omega)
    have hA9:=hA.fx hf9 (by omega)
    have hOo9:=hOo.fx kp_on hf9 hXb
    have hOi9:=hOi.fx (kp_st _) hf9 hXb
    have hF9:=hF.trans hf9
    clear hp8 hf8 hB hA hF hf9 hp hOo hOi hE
    generalize w8.drewN m9=w9 at *
    go_upto_region 9 with (first
     | (go_at_call 71;refine (hM4 _ hp9).mono ?_;rintro e wa ⟨⟨u,rfl⟩,hpa,hfa⟩))
    have hBa:=hB9.fx hfa (by omega)
    have hAa:=hA9.fx hfa (by omega)
    have hFa:=hF9.trans hfa
    have hOoa:=hOo9.fx kp_on hfa hXb
    have hOia:=hOi9.fx (kp_st _) hfa hXb
    clear hp9 hB9 hA9 hF9 hfa hOo9 hOi9
    obtain ⟨b0,g0⟩:=hBa 0 _ rfl
    obtain ⟨b1,g1⟩:=hBa 1 _ rfl
    obtain ⟨b2,g2⟩:=hBa 2 _ rfl
    obtain ⟨b3,g3⟩:=hBa 3 _ rfl
    obtain ⟨b4,g4⟩:=hBa 4 _ rfl
    obtain ⟨b5,g5⟩:=hBa 5 _ rfl
    obtain ⟨b6,g6⟩:=hBa 6 _ rfl
    obtain ⟨b7,g7⟩:=hBa 7 _ rfl
    obtain ⟨b8,g8⟩:=hBa 8 _ rfl
    obtain ⟨b9,g9⟩:=hBa 9 _ rfl
    obtain ⟨b10,g10⟩:=hBa 10 _ rfl
    obtain ⟨a0,k0⟩:=hAa 0 _ rfl
    obtain ⟨a1,k1⟩:=hAa 1 _ rfl
    obtain ⟨a2,k2⟩:=hAa 2 _ rfl
    obtain ⟨a3,k3⟩:=hAa 3 _ rfl
    obtain ⟨a4,k4⟩:=hAa 4 _ rfl
    obtain ⟨a5,k5⟩:=hAa 5 _ rfl
    obtain ⟨a6,k6⟩:=hAa 6 _ rfl
    obtain ⟨a7,k7⟩:=hAa 7 _ rfl
    obtain ⟨a8,k8⟩:=hAa 8 _ rfl
    obtain ⟨a9,k9⟩:=hAa 9 _ rfl
    obtain ⟨a10,k10⟩:=hAa 10 _ rfl
    have hAz:=(((((((((((hAa.set (i:=0) (by simp) (.string nv)).set (i:=1) (by simp) (.int .i64 ln)).set (i:=2) (by simp) (.int .i64 co)).set (i:=3) (by simp) (.bool kb)).set (i:=4) (by simp) (.bool ke)).set (i:=5) (by simp) (.string kdo)).set (i:=6) (by simp) (.string kun)).set (i:=7) (by simp) (.int .i64 kw)).set (i:=8) (by simp) (.int .i64 kr)).set (i:=9) (by simp) (.slice va os.length vc)).set (i:=10) (by simp) (.slice ua ss.length uc))
    have hpz:=(((((((((((hpa.far (Y:=w.heap.size) (i:=0) (by omega) (.string nv)).far (Y:=w.heap.size) (i:=1) (by omega) (.int .i64 ln)).far (Y:=w.heap.size) (i:=2) (by omega) (.int .i64 co)).far (Y:=w.heap.size) (i:=3) (by omega) (.bool kb)).far (Y:=w.heap.size) (i:=4) (by omega) (.bool ke)).far (Y:=w.heap.size) (i:=5) (by omega) (.string kdo)).far (Y:=w.heap.size) (i:=6) (by omega) (.string kun)).far (Y:=w.heap.size) (i:=7) (by omega) (.int .i64 kw)).far (Y:=w.heap.size) (i:=8) (by omega) (.int .i64 kr)).far (Y:=w.heap.size) (i:=9) (by omega) (.slice va os.length vc)).far (Y:=w.heap.size) (i:=10) (by omega) (.slice ua ss.length uc))
    have hFz:=(((((((((((hFa.setN (N:=w.heap.size) (i:=0) (Nat.le_refl _) (.string nv)).setN (N:=w.heap.size) (i:=1) (Nat.le_refl _) (.int .i64 ln)).setN (N:=w.heap.size) (i:=2) (Nat.le_refl _) (.int .i64 co)).setN (N:=w.heap.size) (i:=3) (Nat.le_refl _) (.bool kb)).setN (N:=w.heap.size) (i:=4) (Nat.le_refl _) (.bool ke)).setN (N:=w.heap.size) (i:=5) (Nat.le_refl _) (.string kdo)).setN (N:=w.heap.size) (i:=6) (Nat.le_refl _) (.string kun)).setN (N:=w.heap.size) (i:=7) (Nat.le_refl _) (.int .i64 kw)).setN (N:=w.heap.size) (i:=8) (Nat.le_refl _) (.int .i64 kr)).setN (N:=w.heap.size) (i:=9) (Nat.le_refl _) (.slice va os.length vc)).setN (N:=w.heap.size) (i:=10) (Nat.le_refl _) (.slice ua ss.length uc))
    have hOoz:=(((((((((((hOoa.set kp_on (X:=w.heap.size) (i:=0) (by omega) (.string nv)).set kp_on (X:=w.heap.size) (i:=1) (by omega) (.int .i64 ln)).set kp_on (X:=w.heap.size) (i:=2) (by omega) (.int .i64 co)).set kp_on (X:=w.heap.size) (i:=3) (by omega) (.bool kb)).set kp_on (X:=w.heap.size) (i:=4) (by omega) (.bool ke)).set kp_on (X:=w.heap.size) (i:=5) (by omega) (.string kdo)).set kp_on (X:=w.heap.size) (i:=6) (by omega) (.string kun)).set kp_on (X:=w.heap.size) (i:=7) (by omega) (.int .i64 kw)).set kp_on (X:=w.heap.size) (i:=8) (by omega) (.int .i64 kr)).set kp_on (X:=w.heap.size) (i:=9) (by omega) (.slice va os.length vc)).set kp_on (X:=w.heap.size) (i:=10) (by omega) (.slice ua ss.length uc))
    have hOiz:=(((((((((((hOia.set (kp_st _) (X:=w.heap.size) (i:=0) (by omega) (.string nv)).set (kp_st _) (X:=w.heap.size) (i:=1) (by omega) (.int .i64 ln)).set (kp_st _) (X:=w.heap.size) (i:=2) (by omega) (.int .i64 co)).set (kp_st _) (X:=w.heap.size) (i:=3) (by omega) (.bool kb)).set (kp_st _) (X:=w.heap.size) (i:=4) (by omega) (.bool ke)).set (kp_st _) (X:=w.heap.size) (i:=5) (by omega) (.string kdo)).set (kp_st _) (X:=w.heap.size) (i:=6) (by omega) (.string kun)).set (kp_st _) (X:=w.heap.size) (i:=7) (by omega) (.int .i64 kw)).set (kp_st _) (X:=w.heap.size) (i:=8) (by omega) (.int .i64 kr)).set (kp_st _) (X:=w.heap.size) (i:=9) (by omega) (.slice va os.length vc)).set (kp_st _) (X:=w.heap.size) (i:=10) (by omega) (.slice ua ss.length uc))
    clear hOoa hOia
    clear hBa hAa hpa hFa
    go_wp2
    refine bodyPost_ret (state_res hAz rfl) rfl ?_
    have hr:=HRES.out
    have hoo:=HOUT.out
    have hv:=HNV.out
    have hkd:=HKD.out
    subst hoo
    subst hr
    subst hv
    exact ⟨⟨_,rfl,_,_,(congrFun (congrFun hkd _) _).symm,(hOoz.rd kp_on).low kp_on (by omega),(hOiz.rd (kp_st _)).low (kp_st _) (by omega)⟩,hpz,hFz⟩
theorem state_all:∀ k,k≤6→StC k
 | 0,_=>state_zero
 | k+1,h=>state_step k h (state_all k (by omega))
abbrev zC6:Obj:=.cells #[.string ⟨#[]⟩,.int .i64 0,.int .i64 0,.int .i64 0,.slice none 0 0,.slice none 0 0] 34
abbrev zCl:List Value:=[.string ⟨#[]⟩,.int .i64 0,.int .i64 0,.int .i64 0,.slice none 0 0,.slice none 0 0]
theorem Tryz.infoVar:(Tryz.prog.info? 61).map (fun i=>(i.zero,i.size,i.bytes))=some (some (.agg #[.string ⟨#[]⟩,.int .i64 0,.int .i64 0,.int .i64 0]),4,40):=by kernel_rfl
theorem chart_res {w4:World}{R:Nat}{a b c d e f:Value}{tmps:Array Value}(hR:Bn w4 R [a,b,c,d,e,f]) (ht:tmps.getD 2 undef=.pointer (some ⟨R,0,none⟩)):(results Tryz.f35 tmps).run Tryz.prog w4=.ok (.agg #[a,b,c,d,e,f]) w4:=by
 have ht':tmps[2]?.getD undef=.pointer (some ⟨R,0,none⟩):=by simpa using ht
 have c0:=(hR 0 _ rfl).1
 have c1:=(hR 1 _ rfl).1
 have c2:=(hR 2 _ rfl).1
 have c3:=(hR 3 _ rfl).1
 have c4:=(hR 4 _ rfl).1
 have c5:=(hR 5 _ rfl).1
 simp [results,Tryz.results35,go_sem,ht',c0,c1,c2,c3,c4,c5]
theorem vars_yes {fin:Pl}{g:Nat}{acc:List (List UInt8 × Int × Pl)}{r:RsC}(h:isC wVar r=true):varsR fin (g+1) acc r=varsR fin g (acc++[(varR fin (takeR fin wVar r)).1]) (varR fin (takeR fin wVar r)).2:=by
 show (if isC wVar r=true then _ else _)=_
 rw [if_pos h];rfl
theorem vars_no {fin:Pl}{g:Nat}{acc:List (List UInt8 × Int × Pl)}{r:RsC}(h:isC wVar r=false):varsR fin (g+1) acc r=(acc,r):=by
 show (if isC wVar r=true then _ else _)=_
 rw [if_neg (by rw [h];decide)]
theorem sts_yes {fin:Pl}{g:Nat}{acc:List (St 7)}{r:RsC}(h:isC wState r=true):stsP fin (g+1) acc r=stsP fin g (acc++[(stP fin 6 r).1]) (stP fin 6 r).2:=by
 show (if isC wState r=true then _ else _)=_
 rw [if_pos h]
theorem sts_no {fin:Pl}{g:Nat}{acc:List (St 7)}{r:RsC}(h:isC wState r=false):stsP fin (g+1) acc r=(acc,r):=by
 show (if isC wState r=true then _ else _)=_
 rw [if_neg (by rw [h];decide)]
theorem goes_var (fin:Pl) (r:RsC):Goes r (varR fin r).2:=by
 refine ((goes_name fin r).trans (goes_take fin [61] _)).trans ?_
 show Goes (takeR fin [61] (nameR fin r).2) (if isC [45] (takeR fin [61] (nameR fin r).2)=true then (fun x=>(-x.1,x.2)) (numR fin (takeR fin [45] (takeR fin [61] (nameR fin r).2))) else numR fin (takeR fin [61] (nameR fin r).2)).2
 split
 ·exact (goes_take fin [45] _).trans (goes_num fin _)
 ·exact goes_num fin _
/-- A chart read from r on. -/
def chP1 (fin:Pl) (r:RsC):ChC × RsC:=
 let a:=nameR fin (takeR fin wChart r)
 let n:=numR fin a.2
 let b:=takeR fin [123] n.2
 let v:=varsR fin (b.1.length+1) [] b
 let s:=stsP fin (v.2.1.length+1) [] v.2
 ((a.1,n.1,v.1,s.1),takeR fin [125] s.2)
theorem chP_1 (fin:Pl) (ws:List Wd):chP fin ws=chP1 fin (ws,(0,0),0):=rfl
set_option maxRecDepth 100000 in
set_option maxHeartbeats 16000000 in
theorem chart_any {w:World}{X:Nat}{a:Option Addr}{cap:Nat}{ws:List Wd}{fin:Pl}{r:RsC}(h:Pr w X a cap ws fin r) (hk:Wk ws cap) (hE:Ey w X) :
  Calls Tryz.prog 35 #[.pointer (some ⟨X,0,none⟩)] w fun e w'=>(∃ v,e=.returned v∧RdC (fun b=>w.heap.size≤b) w' 7 (chP1 fin r).1 v)∧Pr w' X a cap ws fin (chP1 fin r).2∧Fx X w w':=by
 obtain ⟨io,hio,hio0,hio1,hio2⟩:=info_parts Tryz.infoVar
 obtain ⟨it,hit,hit0,hit1,hit2⟩:=info_parts Tryz.infoSt
 have hX:=h.lt
 have hlen:=hk.l
 have hbel:Below w.heap.size w ((w.alloc zC6).alloc zC6):=((Below.refl _ _).alloc (Nat.le_refl _) _).alloc (by simp) _
 have hp0:=h.on hbel
 have hE0:=hE.on hbel
 have hA0:Bn ((w.alloc zC6).alloc zC6) w.heap.size zCl:=(Bn.new w zCl 34 _ rfl).on ((Below.refl _ _).alloc (Nat.le_refl _) _)
 have hB0:Bn ((w.alloc zC6).alloc zC6) (w.heap.size+1) zCl:=Bn.new (w.alloc zC6) zCl 34 _ (by simp)
 have hF0:Fx X w ((w.alloc zC6).alloc zC6):=Fx.of hbel (Nat.le_refl _)
 have hs0:w.heap.size+2≤((w.alloc zC6).alloc zC6).heap.size:=by simp
 have e1:(⟨wState.toArray⟩:ByteArray)=⟨#[115,116,97,116,101]⟩:=rfl
 have e2:(⟨wVar.toArray⟩:ByteArray)=⟨#[118,97,114]⟩:=rfl
 have e3:(⟨wChart.toArray⟩:ByteArray)=⟨#[99,104,97,114,116]⟩:=rfl
 obtain ⟨RES,hRES⟩:∃ x,chP1 fin r=x:=⟨_,rfl⟩
 rw [hRES]
 unfold chP1 at hRES
 have hM1:=must_any hp0 hk wChart
 rw [e3] at hM1
 generalize takeR fin wChart r=r1 at *
 have hN:=fun w1 (hp:Pr w1 X a cap ws fin r1)=>pname_any hp hk
 obtain ⟨⟨⟨nm,ln,co⟩,r2⟩,hR1⟩:∃ x,nameR fin r1=x:=⟨_,rfl⟩
 simp only [hR1] at hN hRES
 have hNm:=fun w1 (hp:Pr w1 X a cap ws fin r2) (he:Ey w1 X)=>pnum_any hp hk he
 obtain ⟨⟨vn,r3⟩,hR2⟩:∃ x,numR fin r2=x:=⟨_,rfl⟩
 simp only [hR2] at hNm hRES
 have hM2:=fun w1 (hp:Pr w1 X a cap ws fin r3)=>must_any hp hk [123]
 generalize takeR fin [123] r3=r4 at *
 obtain ⟨nv,hnv⟩:∃ nv,(⟨nm.toArray⟩:ByteArray)=nv:=⟨_,rfl⟩
 unfold sV at hN
 simp only [hnv] at hN
 have HNV:Hid ((⟨nm.toArray⟩:ByteArray)=nv):=hnv
 obtain ⟨VS,hVS⟩:∃ o,varsR fin (r4.1.length+1) [] r4=o:=⟨_,rfl⟩
 simp only [hVS] at hRES
 have HO:Hid (varsR fin (r4.1.length+1) [] r4=VS):=hVS
 obtain ⟨OUT,hOUT⟩:∃ o,stsP fin (VS.2.1.length+1) [] VS.2=o:=⟨_,rfl⟩
 simp only [hOUT] at hRES
 have HP:Hid (stsP fin (VS.2.1.length+1) [] VS.2=OUT):=hOUT
 have HRES:Hid ((((nm,ln,co),vn,VS.1,OUT.1),takeR fin [125] OUT.2)=RES):=hRES
 have hM3:=fun w1 q (hp:Pr w1 X a cap ws fin q)=>must_any hp hk [125]
 have hQ:=fun w1 q (hp:Pr w1 X a cap ws fin q)=>skips_any hp hk wVar
 rw [e2] at hQ
 have hSe:=fun w1 q (hp:Pr w1 X a cap ws fin q)=>sees_any hp hk wState
 rw [e1] at hSe
 have hT:=fun w1 q (hp:Pr w1 X a cap ws fin q) (he:Ey w1 X)=>pvar_any hp hk he
 have hI:=fun w1 q (hp:Pr w1 X a cap ws fin q) (he:Ey w1 X)=>state_all 6 (Nat.le_refl _) w1 X a cap ws fin q 1 (by omega) hp hk he
 clear hR1 hR2 hRES hOUT hVS hnv hbel h
 go_enter Tryz.func35,Tryz.ntmps35
 go_upto_region 2 with fail
 generalize (w.alloc zC6).alloc zC6=w0 at *
 go_upto_region 3 with (first
  | (go_at_call 71;refine hM1.mono ?_;rintro e w3 ⟨⟨u,rfl⟩,hp3,hf3⟩))
 have hA3:=hA0.fx hf3 (by omega)
 have hB3:=hB0.fx hf3 (by omega)
 have hE3:=hE0.fx hf3
 have hF3:=hF0.trans hf3
 have hs3:=Nat.le_trans hs0 hf3.size
 clear hA0 hB0 hp0 hE0 hF0 hs0 hf3 hM1
 go_upto_region 4 with (first
  | (go_at_call 72;refine (hN _ hp3).mono ?_;rintro e w4 ⟨rfl,hp4,hf4⟩;have hA4:=hA3.fx hf4 (by omega);have hB4:=hB3.fx hf4 (by omega);obtain ⟨b0,g0⟩:=hB4 0 _ rfl;obtain ⟨b2,g2⟩:=hB4 2 _ rfl;obtain ⟨b3,g3⟩:=hB4 3 _ rfl))
 have hA5:=((hA4.far (X:=w.heap.size+1) (i:=0) (by omega) (.string nv)).far (X:=w.heap.size+1) (i:=2) (by omega) (.int .i64 ln)).far (X:=w.heap.size+1) (i:=3) (by omega) (.int .i64 co)
 have hB5:Bn _ (w.heap.size+1) [.string nv,.int .i64 0,.int .i64 ln,.int .i64 co,.slice none 0 0,.slice none 0 0]:=((hB4.set (i:=0) (by simp) (.string nv)).set (i:=2) (by simp) (.int .i64 ln)).set (i:=3) (by simp) (.int .i64 co)
 have hp5:=((hp4.far (Y:=w.heap.size+1) (i:=0) (by omega) (.string nv)).far (Y:=w.heap.size+1) (i:=2) (by omega) (.int .i64 ln)).far (Y:=w.heap.size+1) (i:=3) (by omega) (.int .i64 co)
 have hE5:=(((hE3.fx hf4).far (Y:=w.heap.size+1) (i:=0) (by omega) (.string nv)).far (Y:=w.heap.size+1) (i:=2) (by omega) (.int .i64 ln)).far (Y:=w.heap.size+1) (i:=3) (by omega) (.int .i64 co)
 have hF5:=(((hF3.trans hf4).setN (N:=w.heap.size+1) (i:=0) (by omega) (.string nv)).setN (N:=w.heap.size+1) (i:=2) (by omega) (.int .i64 ln)).setN (N:=w.heap.size+1) (i:=3) (by omega) (.int .i64 co)
 have hs5:w.heap.size+2≤(((w4.setCell ⟨w.heap.size+1,0,none⟩ (.string nv)).setCell ⟨w.heap.size+1,2,none⟩ (.int .i64 ln)).setCell ⟨w.heap.size+1,3,none⟩ (.int .i64 co)).heap.size:=by simpa using Nat.le_trans hs3 hf4.size
 clear hA3 hB3 hp3 hE3 hF3 hA4 hB4 hp4 hf4 b0 g0 b2 g2 b3 g3 hs3 hN
 generalize ((w4.setCell ⟨w.heap.size+1,0,none⟩ (.string nv)).setCell ⟨w.heap.size+1,2,none⟩ (.int .i64 ln)).setCell ⟨w.heap.size+1,3,none⟩ (.int .i64 co)=w5 at *
 go_upto_region 5 with (first
  | (go_at_call 73;refine (hNm _ hp5 hE5).mono ?_;rintro e w6 ⟨rfl,hp6,hf6⟩;have hA6:=hA5.fx hf6 (by omega);have hB6:=hB5.fx hf6 (by omega);obtain ⟨b1,g1⟩:=hB6 1 _ rfl))
 have hA7:=hA6.far (X:=w.heap.size+1) (i:=1) (by omega) (.int .i64 vn)
 have hB7:Bn _ (w.heap.size+1) [.string nv,.int .i64 vn,.int .i64 ln,.int .i64 co,.slice none 0 0,.slice none 0 0]:=hB6.set (i:=1) (by simp) (.int .i64 vn)
 have hp7:=hp6.far (Y:=w.heap.size+1) (i:=1) (by omega) (.int .i64 vn)
 have hE7:=(hE5.fx hf6).far (Y:=w.heap.size+1) (i:=1) (by omega) (.int .i64 vn)
 have hF7:=(hF5.trans hf6).setN (N:=w.heap.size+1) (i:=1) (by omega) (.int .i64 vn)
 have hs7:w.heap.size+2≤(w6.setCell ⟨w.heap.size+1,1,none⟩ (.int .i64 vn)).heap.size:=by simpa using Nat.le_trans hs5 hf6.size
 clear hA5 hB5 hp5 hE5 hF5 hA6 hB6 hp6 hf6 b1 g1 hs5 hNm
 generalize w6.setCell ⟨w.heap.size+1,1,none⟩ (.int .i64 vn)=w7 at *
 go_wp2_with (first
  | (go_at_call 71;refine (hM2 _ hp7).mono ?_;rintro e w8 ⟨⟨u,rfl⟩,hp8,hf8⟩))
 have hA8:=hA7.fx hf8 (by omega)
 have hB8:=hB7.fx hf8 (by omega)
 have hE8:=hE7.fx hf8
 have hF8:=hF7.trans hf8
 have hs8:=Nat.le_trans hs7 hf8.size
 clear hA7 hB7 hp7 hE7 hF7 hf8 hs7 hM2
 have hl8:=hp8.len
 go_loopw [] (fun wr=>∃ (g:Nat) (vs:List (List UInt8 × Int × Pl)) (q:RsC) (slv:Value),Pr wr X a cap ws fin q∧Hid (varsR fin g vs q=VS)∧q.1.length < g∧vs.length+q.1.length≤3000∧
  Bn wr (w.heap.size+1) [.string nv,.int .i64 vn,.int .i64 ln,.int .i64 co,slv,.slice none 0 0]∧OwnB wr (w.heap.size+2) (fun b=>(Value.slice none 0 0).ownBlock=some b) 61 4 rVar slv vs∧Bn wr w.heap.size zCl∧Ey wr X∧Fx X w wr∧w.heap.size+2≤wr.heap.size) (fun wr=>ws.length - nxt wr X)
 case atStart=>exact ⟨_,[],r4,_,hp8,HO,Nat.lt_succ_self _,by simp;omega,hB8,ownB_nil _ _ _ _ _ _,hA8,hE8,hF8,hs8⟩
 case round=>
  clear hA8 hB8 hp8 hE8 hF8 hs8 HO
  obtain ⟨g,vs,q,slv,hp,ho,hgl,hal,hB,hO,hA,hE,hF,hsz⟩:=hrel
  obtain ⟨g',rfl⟩:∃ g',g=g'+1:=⟨g - 1,by omega⟩
  have hm1:=hp.left
  have hXb:X < w.heap.size+2:=by omega
  obtain ⟨va,vc,rfl,hvl,hvm⟩:=hO.form
  have hQ1:=hQ _ _ hp
  cases hi1:isC wVar q with
  | true=>
   rw [hi1,skR_yes hi1] at hQ1
   have hout:=ho.out
   rw [vars_yes hi1] at hout
   have hT1:=fun w1 (hp:Pr w1 X a cap ws fin (takeR fin wVar q)) (he:Ey w1 X)=>hT w1 _ hp he
   have hgo:=(goes_var fin (takeR fin wVar q)).1
   have hlt:=takeR_less fin hi1
   generalize takeR fin wVar q=q1 at *
   obtain ⟨⟨s1,q2⟩,hS1⟩:∃ x,varR fin q1=x:=⟨_,rfl⟩
   simp only [hS1] at hT1 hout hgo
   have HOUT:Hid (varsR fin g' (vs++[s1]) q2=VS):=hout
   obtain ⟨sn,sv,sl,sc,hsv⟩:∃ sn sv sl sc,varV s1=[.string sn,.int .i64 sv,.int .i64 sl,.int .i64 sc]:=⟨_,_,_,_,rfl⟩
   have HC:Hid (∀ (w:World) (lo:Nat),rVar (fun b=>lo≤b) w s1 [.string sn,.int .i64 sv,.int .i64 sl,.int .i64 sc]):=fun _ _=>hsv.symm
   rw [hsv] at hT1
   clear hS1 hout hsv ho hT hI hSe hM3
   go_upto_region 7 with (first
    | (go_at_call 74;refine hQ1.mono ?_;rintro e w9 ⟨rfl,hp9,hf9⟩))
   have hB9:=hB.fx hf9 (by omega)
   have hA9:=hA.fx hf9 (by omega)
   have hO9:=hO.fx kp_var hf9 hXb
   have hE9:=hE.fx hf9
   have hF9:=hF.trans hf9
   have hs9:=Nat.le_trans hsz hf9.size
   have hp9d:=hp9.on ((Below.refl w9.heap.size w9).drew)
   have hE9d:=hE9.on ((Below.refl w9.heap.size w9).drew)
   clear hB hA hO hE hF hf9 hsz hp hQ1 hp9
   obtain ⟨k3,z3⟩:=hB9 4 _ rfl
   go_region_law (first
    | (refine step_pushB wa rfl _ _ 31 rfl (w.heap.size+2) (fun b=>(Value.slice none 0 0).ownBlock=some b) 61 io (.agg #[.string ⟨#[]⟩,.int .i64 0,.int .i64 0,.int .i64 0]) 4 40 Tryz.underlying31 hio hio0 hio1 hio2 rfl kp_var (.slice va vs.length vc) vs s1 [.string sn,.int .i64 sv,.int .i64 sl,.int .i64 sc] w9.heap.size rfl rfl rfl (by simp [Value.oneCell']) hOa (HC.out _ _) hs9 (fun x hx=>(hO9.lt x hx).2) (fun b hb=>by simp [Value.ownBlock] at hb) (by omega) (by unfold maxLen;omega) hsa ?_;intro vb wb hOb hgb hbb hat;have hBb:=hBa.blk (hbb.block _ (by omega));have hAb:=hAa.blk (hbb.block _ (by omega));have hpb:=hpa.belowB hbb (by omega);have hEb:=hEa.bel hbb (by omega);have hFb:=hFa.andB hbb (by omega);obtain ⟨m5,n5⟩:=hBb 4 _ rfl;obtain ⟨vba,vbc,hvb,hvbl,hvbm⟩:=hOb.form;rw [List.length_append,List.length_singleton] at hvb;subst hvb)
    | (go_simp;(with_reducible refine (hT1 _ hp9d hE9d).mono ?_);rintro e wa ⟨rfl,hpa,hfa⟩;have hfa':=((Fx.refl X w9).drew).trans hfa;have hBa:=hB9.fx hfa' (by omega);have hAa:=hA9.fx hfa' (by omega);have hOa:=hO9.fx kp_var hfa' hXb;have hEa:=hE9.fx hfa';have hFa:=hF9.trans hfa';have hsa:=Nat.le_trans hs9 hfa'.size;obtain ⟨m3,n3⟩:=hBa 4 _ rfl;have hali:=(Below.refl wa.heap.size wa).alloc (Nat.le_refl _) (.cells #[.string sn,.int .i64 sv,.int .i64 sl,.int .i64 sc] 61);have m4:=((hBa.on hali) 4 _ rfl).1)
    | fail)
   all_goals (
    have hBc:=hBb.set (i:=4) (by simp) (.slice vba (vs.length+1) vbc)
    have hAc:=hAb.far (X:=w.heap.size+1) (i:=4) (by omega) (.slice vba (vs.length+1) vbc)
    have hOc:=hOb.set kp_var (X:=w.heap.size+1) (i:=4) (by omega) (.slice vba (vs.length+1) vbc)
    have hpc:=hpb.far (Y:=w.heap.size+1) (i:=4) (by omega) (.slice vba (vs.length+1) vbc)
    have hEc:=hEb.far (Y:=w.heap.size+1) (i:=4) (by omega) (.slice vba (vs.length+1) vbc)
    have hFc:=hFb.setN (N:=w.heap.size+1) (i:=4) (by omega) (.slice vba (vs.length+1) vbc)
    have hsc:w.heap.size+2≤(wb.setCell ⟨w.heap.size+1,4,none⟩ (.slice vba (vs.length+1) vbc)).heap.size:=by simpa using Nat.le_trans hsa hbb.size
    have hm2:=hpc.left
    have hlc:(vs++[s1]).length=vs.length+1:=by simp
    clear hBa hAa hOa hpa hEa hFa hfa hfa' hsa m3 n3 hali m4 hBb hAb hOb hpb hEb hFb hgb hbb hat k3 z3
    go_wp2
    go_roundw
    case rel=>exact ⟨g',vs++[s1],q2,_,hpc,HOUT,by omega,by omega,hBc,hOc,hAc,hEc,hFc,hsc⟩
    case measure=>omega)
  | false=>
   rw [hi1,skR_no hi1] at hQ1
   have hout:=ho.out
   rw [vars_no hi1] at hout
   subst hout
   simp only at HP HRES
   clear ho hT hQ
   go_wp2_with (first
    | (go_at_call 74;refine hQ1.mono ?_;rintro e w9 ⟨rfl,hp9,hf9⟩))
   have hB9:=hB.fx hf9 (by omega)
   have hA9:=hA.fx hf9 (by omega)
   have hO9:=hO.fx kp_var hf9 hXb
   have hE9:=hE.fx hf9
   have hF9:=hF.trans hf9
   have hs9:=Nat.le_trans hsz hf9.size
   clear hB hA hO hE hF hf9 hsz hp hQ1
   have hl9:=hp9.len
   go_loopw [] (fun wr=>∃ (g:Nat) (ss:List (St 7)) (q:RsC) (sls:Value),Pr wr X a cap ws fin q∧Hid (stsP fin g ss q=OUT)∧0 < g∧(q.2.2=0→q.1.length < g)∧ss.length+q.1.length+erq wr X≤3001∧
    Bn wr (w.heap.size+1) [.string nv,.int .i64 vn,.int .i64 ln,.int .i64 co,.slice va vs.length vc,sls]∧OwnB wr (w.heap.size+2) (fun b=>sls.ownBlock=some b) 61 4 rVar (.slice va vs.length vc) vs∧OwnB wr (w.heap.size+2) (fun b=>(Value.slice va vs.length vc).ownBlock=some b) 57 11 (rSt 7) sls ss∧Bn wr w.heap.size zCl∧Ey wr X∧Fx X w wr∧w.heap.size+2≤wr.heap.size) (fun wr=>2*(ws.length - nxt wr X)+erq wr X)
   case atStart=>
    have hq:=hp9.erq
    refine ⟨_,[],q,_,hp9,HP,Nat.succ_pos _,fun _=>Nat.lt_succ_self _,?_,hB9,hO9,ownB_nil _ _ _ _ _ _,hA9,hE9,hF9,hs9⟩
    have:erq w9 X≤1:=by rw [hq];split <;> omega
    simp only [List.length_nil]
    omega
   case round=>
    clear hA9 hB9 hp9 hE9 hF9 hs9 HP hO9 hl9 hm1 hgl hal
    obtain ⟨g,ss,q,sls,hp,ho,hg0,hgl,hal,hB,hO,hOi,hA,hE,hF,hsz⟩:=hrel
    obtain ⟨g',rfl⟩:∃ g',g=g'+1:=⟨g - 1,by omega⟩
    have hm1:=hp.left
    have hq1:=hp.erq
    obtain ⟨ua,uc,rfl,hul,hum⟩:=hOi.form
    have hS1:=hSe _ _ hp
    cases hi2:isC wState q with
    | true=>
     rw [hi2] at hS1
     have hout:=ho.out
     rw [sts_yes hi2] at hout
     have hI1:=fun w1 (hp:Pr w1 X a cap ws fin q) (he:Ey w1 X)=>hI w1 q hp he
     have hgo:=goesP_st fin 6 hi2
     have hlt0:=(isC_cons hi2).1
     have hlt1:1≤q.1.length:=by obtain ⟨x,l,hx⟩:=(isC_cons hi2).2;rw [hx];simp
     rw [if_pos hlt0] at hq1
     obtain ⟨⟨s1,q2⟩,hS⟩:∃ x,stP fin 6 q=x:=⟨_,rfl⟩
     simp only [hS] at hI1 hout hgo
     have HOUT:Hid (stsP fin g' (ss++[s1]) q2=OUT):=hout
     obtain ⟨sn,sl,sc,sb,se,sd,su,sw,sr,hsv⟩:∃ sn sl sc sb se sd su sw sr,hdV s1.1=fun so si=>[.string sn,.int .i64 sl,.int .i64 sc,.bool sb,.bool se,.string sd,.string su,.int .i64 sw,.int .i64 sr,so,si]:=⟨_,_,_,_,_,_,_,_,_,rfl⟩
     have hI2:∀ w1,Pr w1 X a cap ws fin q→Ey w1 X→Calls Tryz.prog 77 #[.pointer (some ⟨X,0,none⟩),.int .i64 1] w1 fun e w'=>(∃ so si,e=.returned (.agg #[.string sn,.int .i64 sl,.int .i64 sc,.bool sb,.bool se,.string sd,.string su,.int .i64 sw,.int .i64 sr,so,si])∧rSt 7 (fun b=>w1.heap.size≤b) w' s1 [.string sn,.int .i64 sl,.int .i64 sc,.bool sb,.bool se,.string sd,.string su,.int .i64 sw,.int .i64 sr,so,si]∧(∃ p1 p2 p3,so=.slice p1 p2 p3)∧∃ p1 p2 p3,si=.slice p1 p2 p3)∧Pr w' X a cap ws fin q2∧Fx X w1 w':=fun w1 hp1 he1=>(hI1 w1 hp1 he1).mono (fun e w' hh=>by
      obtain ⟨⟨cs,h1,so,si,h2,h3,h4⟩,h5,h6⟩:=hh
      refine ⟨⟨so,si,?_,⟨so,si,?_,h3,h4⟩,?_,?_⟩,h5,h6⟩
      ·rw [h1,h2,hsv]
      ·rw [hsv]
      ·obtain ⟨p1,p3,e,_⟩:=h3.form;exact ⟨_,_,_,e⟩
      ·obtain ⟨p1,p3,e,_⟩:=h4.form;exact ⟨_,_,_,e⟩)
     clear hS hout hI1 ho hsv hI hSe hM3
     go_upto_region 9 with (first
      | (go_at_call 76;refine hS1.mono ?_;rintro e w9 ⟨rfl,m9,rfl⟩))
     have hf9:=(Fx.refl X wr).drewN m9
     have hp9:=hp.on (draws wr m9)
     have hB9:=hB.fx hf9 (by omega)
     have hA9:=hA.fx hf9 (by omega)
     have hO9:=hO.fx kp_var hf9 hXb
     have hOi9:=hOi.fx (kp_st _) hf9 hXb
     have hE9:=hE.fx hf9
     have hF9:=hF.trans hf9
     have hs9:w.heap.size+2≤(wr.drewN m9).heap.size:=Nat.le_trans hsz hf9.size
     clear hB hA hO hOi hE hF hf9 hsz hp hS1
     generalize wr.drewN m9=w9 at *
     have hp9d:=hp9.on ((Below.refl w9.heap.size w9).drew)
     have hE9d:=hE9.on ((Below.refl w9.heap.size w9).drew)
     obtain ⟨k3,z3⟩:=hB9 5 _ rfl
     go_region_law (first
      | (refine step_pushB wa rfl _ _ 32 rfl (w.heap.size+2) (fun b=>(Value.slice va vs.length vc).ownBlock=some b) 57 it (.agg #[.string ⟨#[]⟩,.int .i64 0,.int .i64 0,.bool false,.bool false,.string ⟨#[]⟩,.string ⟨#[]⟩,.int .i64 0,.int .i64 0,.slice none 0 0,.slice none 0 0]) 11 136 Tryz.underlying32 hit hit0 hit1 hit2 rfl (kp_st _) (.slice ua ss.length uc) ss s1 [.string sn,.int .i64 sl,.int .i64 sc,.bool sb,.bool se,.string sd,.string su,.int .i64 sw,.int .i64 sr,.slice p1 p2 p3,.slice p4 p5 p6] w9.heap.size rfl rfl rfl (by simp [Value.oneCell']) hOia hra hs9 (fun x hx=>(hOi9.lt x hx).2) (fun b hb=>⟨(hO9.lt b hb).2,(hOa.lt b hb).2⟩) (by omega) (by unfold maxLen;omega) hsa ?_;intro vb wb hOb hgb hbb hat;have hBb:=hBa.blk (hbb.block _ (by omega));have hAb:=hAa.blk (hbb.block _ (by omega));have hpb:=hpa.belowB hbb (by omega);have hEb:=hEa.bel hbb (by omega);have hFb:=hFa.andB hbb (by omega);have hOob:=(hOa.on kp_var hali).other kp_var hgb hat;obtain ⟨m5,n5⟩:=hBb 5 _ rfl;obtain ⟨vba,vbc,hvb,hvbl,hvbm⟩:=hOb.form;rw [List.length_append,List.length_singleton] at hvb;subst hvb)
      | (go_simp;(with_reducible refine (hI2 _ hp9d hE9d).mono ?_);rintro e wa ⟨⟨so,si,rfl,hra,⟨p1,p2,p3,rfl⟩,p4,p5,p6,rfl⟩,hpa,hfa⟩;have hfa':=((Fx.refl X w9).drew).trans hfa;have hBa:=hB9.fx hfa' (by omega);have hAa:=hA9.fx hfa' (by omega);have hOa:=hO9.fx kp_var hfa' hXb;have hOia:=hOi9.fx (kp_st _) hfa' hXb;have hEa:=hE9.fx hfa';have hFa:=hF9.trans hfa';have hsa:=Nat.le_trans hs9 hfa'.size;obtain ⟨m3,n3⟩:=hBa 5 _ rfl;have hali:=(Below.refl wa.heap.size wa).alloc (Nat.le_refl _) (.cells #[.string sn,.int .i64 sl,.int .i64 sc,.bool sb,.bool se,.string sd,.string su,.int .i64 sw,.int .i64 sr,.slice p1 p2 p3,.slice p4 p5 p6] 57);have m4:=((hBa.on hali) 5 _ rfl).1)
      | fail)
     all_goals (
      have hBc:=hBb.set (i:=5) (by simp) (.slice vba (ss.length+1) vbc)
      have hAc:=hAb.far (X:=w.heap.size+1) (i:=5) (by omega) (.slice vba (ss.length+1) vbc)
      have hOc:=hOob.set kp_var (X:=w.heap.size+1) (i:=5) (by omega) (.slice vba (ss.length+1) vbc)
      have hOic:=hOb.set (kp_st _) (X:=w.heap.size+1) (i:=5) (by omega) (.slice vba (ss.length+1) vbc)
      have hpc:=hpb.far (Y:=w.heap.size+1) (i:=5) (by omega) (.slice vba (ss.length+1) vbc)
      have hEc:=hEb.far (Y:=w.heap.size+1) (i:=5) (by omega) (.slice vba (ss.length+1) vbc)
      have hFc:=hFb.setN (N:=w.heap.size+1) (i:=5) (by omega) (.slice vba (ss.length+1) vbc)
      have hsc:w.heap.size+2≤(wb.setCell ⟨w.heap.size+1,5,none⟩ (.slice vba (ss.length+1) vbc)).heap.size:=by simpa using Nat.le_trans hsa hbb.size
      have hm2:=hpc.left
      have hq2:=hpc.erq
      have hlc:(ss++[s1]).length=ss.length+1:=by simp
      have hgl2:=hgl hlt0
      obtain ⟨hgo1,hgo2⟩:=hgo
      have hgo3:=hgo1.1
      have hmq:q2.1.length+erq (wb.setCell ⟨w.heap.size+1,5,none⟩ (.slice vba (ss.length+1) vbc)) X≤q.1.length∧2*q2.1.length+erq (wb.setCell ⟨w.heap.size+1,5,none⟩ (.slice vba (ss.length+1) vbc)) X < 2*q.1.length+1:=by
       rw [hq2]
       by_cases hz:q2.2.2=0
       ·rw [if_pos hz];have:=hgo2 hz;omega
       ·rw [if_neg hz];omega
      have hgq:0 < g'∧(q2.2.2=0→q2.1.length < g'):=⟨by omega,fun hz=>by have:=hgo2 hz;omega⟩
      clear hBa hAa hOa hOia hpa hEa hFa hfa hfa' hsa m3 n3 hali m4 hBb hAb hOb hOob hpb hEb hFb hgb hbb hat k3 z3 hra hq2 hgo1 hgo2
      go_wp2
      go_roundw
      case rel=>exact ⟨g',ss++[s1],q2,_,hpc,HOUT,hgq.1,hgq.2,by omega,hBc,hOc,hOic,hAc,hEc,hFc,hsc⟩
      case measure=>omega)
    | false=>
     rw [hi2] at hS1
     have hout:=ho.out
     rw [sts_no hi2] at hout
     have HOUT:Hid ((ss,q)=OUT):=hout
     have hM4:=fun w1 (hp:Pr w1 X a cap ws fin q)=>hM3 w1 _ hp
     clear hout ho hI hSe hM3
     go_upto_region 10 with (first
      | (go_at_call 76;refine hS1.mono ?_;rintro e w9 ⟨rfl,m9,rfl⟩))
     have hf9:=(Fx.refl X wr).drewN m9
     have hp9:=hp.on (draws wr m9)
     have hB9:=hB.fx hf9 (by omega)
     have hA9:=hA.fx hf9 (by omega)
     have hO9:=hO.fx kp_var hf9 hXb
     have hOi9:=hOi.fx (kp_st _) hf9 hXb
     have hF9:=hF.trans hf9
     clear hB hA hO hOi hE hF hf9 hsz hp hS1
     generalize wr.drewN m9=w9 at *
     go_upto_region 11 with (first
      | (go_at_call 71;refine (hM4 _ hp9).mono ?_;rintro e wa ⟨⟨u,rfl⟩,hpa,hfa⟩))
     have hBa:=hB9.fx hfa (by omega)
     have hAa:=hA9.fx hfa (by omega)
     have hFa:=hF9.trans hfa
     have hOa:=hO9.fx kp_var hfa hXb
     have hOia:=hOi9.fx (kp_st _) hfa hXb
     clear hp9 hB9 hA9 hF9 hfa hO9 hOi9
     obtain ⟨b0,g0⟩:=hBa 0 _ rfl
     obtain ⟨b1,g1⟩:=hBa 1 _ rfl
     obtain ⟨b2,g2⟩:=hBa 2 _ rfl
     obtain ⟨b3,g3⟩:=hBa 3 _ rfl
     obtain ⟨b4,g4⟩:=hBa 4 _ rfl
     obtain ⟨b5,g5⟩:=hBa 5 _ rfl
     obtain ⟨a0,k0⟩:=hAa 0 _ rfl
     obtain ⟨a1,k1⟩:=hAa 1 _ rfl
     obtain ⟨a2,k2⟩:=hAa 2 _ rfl
     obtain ⟨a3,k3⟩:=hAa 3 _ rfl
     obtain ⟨a4,k4⟩:=hAa 4 _ rfl
     obtain ⟨a5,k5⟩:=hAa 5 _ rfl
     have hAz:=((((((hAa.set (i:=0) (by simp) (.string nv)).set (i:=1) (by simp) (.int .i64 vn)).set (i:=2) (by simp) (.int .i64 ln)).set (i:=3) (by simp) (.int .i64 co)).set (i:=4) (by simp) (.slice va vs.length vc)).set (i:=5) (by simp) (.slice ua ss.length uc))
     have hpz:=((((((hpa.far (Y:=w.heap.size) (i:=0) (by omega) (.string nv)).far (Y:=w.heap.size) (i:=1) (by omega) (.int .i64 vn)).far (Y:=w.heap.size) (i:=2) (by omega) (.int .i64 ln)).far (Y:=w.heap.size) (i:=3) (by omega) (.int .i64 co)).far (Y:=w.heap.size) (i:=4) (by omega) (.slice va vs.length vc)).far (Y:=w.heap.size) (i:=5) (by omega) (.slice ua ss.length uc))
     have hFz:=((((((hFa.setN (N:=w.heap.size) (i:=0) (Nat.le_refl _) (.string nv)).setN (N:=w.heap.size) (i:=1) (Nat.le_refl _) (.int .i64 vn)).setN (N:=w.heap.size) (i:=2) (Nat.le_refl _) (.int .i64 ln)).setN (N:=w.heap.size) (i:=3) (Nat.le_refl _) (.int .i64 co)).setN (N:=w.heap.size) (i:=4) (Nat.le_refl _) (.slice va vs.length vc)).setN (N:=w.heap.size) (i:=5) (Nat.le_refl _) (.slice ua ss.length uc))
     have hOz:=((((((hOa.set kp_var (X:=w.heap.size) (i:=0) (by omega) (.string nv)).set kp_var (X:=w.heap.size) (i:=1) (by omega) (.int .i64 vn)).set kp_var (X:=w.heap.size) (i:=2) (by omega) (.int .i64 ln)).set kp_var (X:=w.heap.size) (i:=3) (by omega) (.int .i64 co)).set kp_var (X:=w.heap.size) (i:=4) (by omega) (.slice va vs.length vc)).set kp_var (X:=w.heap.size) (i:=5) (by omega) (.slice ua ss.length uc))
     have hOiz:=((((((hOia.set (kp_st _) (X:=w.heap.size) (i:=0) (by omega) (.string nv)).set (kp_st _) (X:=w.heap.size) (i:=1) (by omega) (.int .i64 vn)).set (kp_st _) (X:=w.heap.size) (i:=2) (by omega) (.int .i64 ln)).set (kp_st _) (X:=w.heap.size) (i:=3) (by omega) (.int .i64 co)).set (kp_st _) (X:=w.heap.size) (i:=4) (by omega) (.slice va vs.length vc)).set (kp_st _) (X:=w.heap.size) (i:=5) (by omega) (.slice ua ss.length uc))
     clear hBa hAa hpa hFa hOa hOia
     go_wp2
     refine bodyPost_ret (chart_res hAz rfl) rfl ?_
     have hr:=HRES.out
     have hoo:=HOUT.out
     have hv:=HNV.out
     subst hoo
     subst hr
     subst hv
     exact ⟨⟨_,rfl,_,_,rfl,(hOz.rd kp_var).low kp_var (by omega),(hOiz.rd (kp_st _)).low (kp_st _) (by omega)⟩,hpz,hFz⟩
end Go.Proofs.YtlgnahpfggagoaaGreatDoor
