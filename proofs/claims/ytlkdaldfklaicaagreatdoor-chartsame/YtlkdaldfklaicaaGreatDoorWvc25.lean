import Derived.Test.YtlkdaldfklaicaaGreatDoorWvc01
import Derived.Test.YtlkdaldfklaicaaGreatDoorWvc09
import Derived.Test.YtlkdaldfklaicaaGreatDoorWvc23
import Derived.Test.YtlkdaldfklaicaaGreatDoorWvc24
import Derived.Test.YtlkdaldfklaicaaGreatDoorWvc10
set_option maxRecDepth 100000
set_option maxHeartbeats 32000000
namespace Go.Proofs.YtlkdaldfklaicaaGreatDoor
open Go.RowKit Go.Lib
set_option linter.unusedSimpArgs false
set_option linter.unusedVariables false
attribute [local go_sem ↓] Go.wp_at_zero Go.wp_at_succ
theorem zmV {u1:Nat}{y1:Value}{V:Bool}{w:World}(hs1:Hid (zeW w (.iface u1 y1) .nilIface V)):Calls Tryz.prog 55 #[(.iface u1 y1),.nilIface] w fun r w'=>r=.returned (.bool V)/\Below w.heap.size w w':=by
 obtain ⟨i0,hi,hz0,hz1,hz2⟩:=info_parts Tryz.infoE
 go_enter Tryz.func55,Tryz.ntmps55
 go_wp2
 go_loopg [5,6] 2000 (fun gn p q wr=>∃ (st su:List Sg),Stk wr w.heap.size p st/\Stk wr w.heap.size q su/\Hid (zgN p q)/\Hid (st.length=su.length)/\Hid (∀ y∈st,ClS y)/\Hid (∀ y∈su,ClS y)/\Hid (zax zaZ st su=V)/\Hid ((st.map zaa).sum<=gn)/\Hid (gn<=2000/\(su.map zaa).sum<=2000)/\Below w.heap.size w wr)
 case atStart=>
  obtain ⟨S,S',h1,h2,h3,h4,h5,h6,h7,h8⟩:=hs1.out
  exact ⟨S,S',h1,h2,fun g hg hg'=>by simp [Value.ownBlock] at hg hg';omega,h3,h4,h5,h6,h7,⟨Nat.le_refl _,h8⟩,(zn3.alloc zn2 _).alloc (by simp) _⟩
 case round=>
  clear hs1
  obtain ⟨st,su,hS,hS',hO,hL,hC,hC',hV,hM,hM',hb⟩:=hrel
  by_cases he:st=[]
  ·subst he
   obtain ⟨a,cap,rfl⟩:=hS.nil
   have hF:V=true:=by
    have h1:=hL.out
    have h2:su=[]:=List.eq_nil_of_length_eq_zero (by simpa using h1.symm)
    rw [<- hV.out,h2];rfl
   subst hF
   go_wp2
   go_ret
   exact ⟨rfl,hb⟩
  obtain ⟨st',x,rfl⟩:=zbd he
  have hne:su≠[]:=by
   intro e;have h1:=hL.out;rw [e] at h1;simp at h1
  obtain ⟨su',y,rfl⟩:=zbd hne
  obtain ⟨g,cap,rfl,hcap,hcm,hgb,hgl,hcell,hP⟩:=hS.pop
  obtain ⟨g',cap',rfl,hcap',hcm',hgb',hgl',hcell',hP'⟩:=hS'.pop
  have hlen:Hid (su'.length=st'.length):=by have h1:=hL.out;show _=_;simp at h1;exact h1.symm
  have hm:=hM.out
  have hm':=hM'.out
  rw [List.map_append,List.sum_append,List.map_singleton,List.sum_singleton] at hm hm'
  have hcl1:=hC.out x (by simp)
  have hcl2:=hC'.out y (by simp)
  obtain ⟨e1,t1⟩:=x
  obtain ⟨e2,t2⟩:=y
  cases e1 with
  | zero=>exact Empty.elim t1
  | succ e1=>
  cases e2 with
  | zero=>exact Empty.elim t2
  | succ e2=>
  obtain ⟨k,n,s,ps,rfl,htop⟩:=zbh (d:=e1) (t:=t1) hcl1
  obtain ⟨k',n',s',qs,rfl,htop'⟩:=zbh (d:=e2) (t:=t2) hcl2
  obtain ⟨L,hLL⟩:∃ L,ps.map (exV e1)=L:=⟨_,rfl⟩
  obtain ⟨M,hMM⟩:∃ M,qs.map (exV e2)=M:=⟨_,rfl⟩
  obtain ⟨z,hz⟩:∃ z,exS ⟨e1+1,mkT k n s ps⟩=z:=⟨_,rfl⟩
  obtain ⟨z',hz'⟩:∃ z,exS ⟨e2+1,mkT k' n' s' qs⟩=z:=⟨_,rfl⟩
  have s1:∀ w1,Calls Tryz.prog 73 #[z] w1 fun e w'=>∃ sl,e=.returned (.agg #[.int .i64 k,.int .i64 n,.string s,sl])/\KidsN w1.heap.size w' sl L/\Below w1.heap.size w1 w':=by rw [<- hz,<- hLL];exact htop
  have h2:Hid (∀ w1,Calls Tryz.prog 73 #[z'] w1 fun e w'=>∃ sl,e=.returned (.agg #[.int .i64 k',.int .i64 n',.string s',sl])/\KidsN w1.heap.size w' sl M/\Below w1.heap.size w1 w'):=by rw [<- hz',<- hMM];exact htop'
  have hTI:Hid ((∀ v∈L,Ifc v)/\(∀ v∈M,Ifc v)):=by rw [<- hLL,<- hMM];exact ⟨zbc ps,zbc qs⟩
  have hLH:Hid (ps.map (exV e1)=L):=hLL
  have hMH:Hid (qs.map (exV e2)=M):=hMM
  rw [hz] at hcell
  rw [hz',hlen.out] at hcell'
  rw [hlen.out] at hP'
  have hsl:st'.length<=2000:=by
   have q1:=zcf st'
   have q2:=hM'.out.1
   omega
  have i1:((st'.length:Int)+1 > 0):=by omega
  have i3:(0:Int)<=(st'.length:Int):=by omega
  have i4:(st'.length:Int)<=(cap:Int):=by omega
  have i4':(st'.length:Int)<=(cap':Int):=by have:=hlen.out;omega
  have i5:(st'.length:Int) < (st'.length:Int)+1:=by omega
  have HP:Hid (Stk wr w.heap.size (.slice (some ⟨g,0,none⟩) st'.length cap) st'):=hP
  have HP':Hid (Stk wr w.heap.size (.slice (some ⟨g',0,none⟩) st'.length cap') su'):=hP'
  rw [hlen.out]
  clear hLL hMM hz hz' htop htop' hP hP' hS hS'
  go_wp2
  go_cut [5,6,7,8,9] (fun p5 p6 p7 p8 p9 wc=>p5=.slice (some ⟨g,0,none⟩) (st'.length+1) cap/\p6=.slice (some ⟨g',0,none⟩) (st'.length+1) cap'/\p7=.int .i64 (st'.length:Int)/\
   ∃ X Y a a',p8=.pointer (some ⟨X,0,none⟩)/\p9=.pointer (some ⟨Y,0,none⟩)/\zfN wr wc X Y (.int .i64 k) (.int .i64 n) (.string s) (.slice a L.length L.length) (.int .i64 k') (.int .i64 n') (.string s') (.slice a' M.length M.length) L M)
  case first=>
   clear hO hL hC hC' hV hM hM' hLH hMH HP HP' hlen hm hm' hcl1 hcl2 hi hz0 hz1 hz2 hne he
   have n1:g≠wr.heap.size:=by omega
   have n2:g'≠wr.heap.size:=by omega
   have n3:g≠wr.heap.size+1:=by omega
   have n4:g'≠wr.heap.size+1:=by omega
   go_region_held_law (fun w'=>w'.cell? ⟨g,st'.length,none⟩=some z/\w'.cell? ⟨g',st'.length,none⟩=some z')
    ((refine ⟨?_,?_⟩<;>(repeat (with_reducible first|exact hcell|exact hcell' | exact c1|exact c1' | exact c2|exact c2' | refine zj ?_|refine zh ?_|refine za (zg n1) ?_|refine za (zg n2) ?_|refine za (zg n3) ?_|refine za (zg n4) ?_|refine za (zg n5) ?_|refine za (zg n6) ?_|refine za (zg n7) ?_|refine za (zg n8) ?_|refine za (zg n9) ?_|refine za (zg m1) ?_|refine za (zg m2) ?_|refine za (zg m3) ?_))<;>done))
    ((first
    | (have s1':=s1;go_at_call 73;refine (s1' _).mono ?_;rintro e w1 ⟨sl,rfl,hk1,b1⟩;obtain ⟨a1,rfl⟩:=hk1.1.form;have s2:=h2.out;clear s1 s1' h2;
       have bw:Below wr.heap.size wr w1:=(by first|(with_reducible exact bw0 b1)|(with_reducible exact bw1 b1)|(with_reducible exact bw2 b1));
       have r1:wr.heap.size<=w1.heap.size:=bw.size;have k1:∀ gg,(Value.slice a1 L.length L.length).ownBlock=some gg->wr.heap.size<=gg:=fun gg hgg=>zn5 (by first|omega|(simp<;>omega)) (hk1.2 gg hgg);
       have n5:g≠w1.heap.size:=Nat.ne_of_lt (zn4 hgl r1);have n6:g'≠w1.heap.size:=Nat.ne_of_lt (zn4 hgl' r1);have n7:g≠w1.heap.size+1:=Nat.ne_of_lt (Nat.lt_succ_of_lt (zn4 hgl r1));have n8:g'≠w1.heap.size+1:=Nat.ne_of_lt (Nat.lt_succ_of_lt (zn4 hgl' r1));
       have c1:=(bw.cell (p:=⟨g,st'.length,none⟩) hgl).trans hcell;have c1':=(bw.cell (p:=⟨g',st'.length,none⟩) hgl').trans hcell';
       (try with_reducible have pA:z4 w1 wr.heap.size:=zA1 b1);
       (try with_reducible have pA:z4 w1 wr.heap.size:=zA2 b1);
       (try with_reducible have pB:z4 w1 (wr.heap.size+1):=zB2 b1))
    | (have s2':=s2;go_at_call 73;refine (s2' _).mono ?_;rintro e w2 ⟨sl,rfl,hk2,b2⟩;obtain ⟨a2,rfl⟩:=hk2.1.form;clear s2 s2';
       have bx:Below w1.heap.size w1 w2:=(by first|(with_reducible exact b2)|(with_reducible exact bx1 b2)|(with_reducible exact bx2 b2));
       have bv:Below wr.heap.size wr w2:=bw.trans (bx.mono r1);
       have r2:w1.heap.size<=w2.heap.size:=bx.size;
       have r3:wr.heap.size<=w2.heap.size:=bv.size;have K2:KidsN wr.heap.size w2 (.slice a2 M.length M.length) M:=⟨hk2.1,fun gg hgg=>zn5 (by first|omega|(simp<;>omega)) (hk2.2 gg hgg)⟩;have K1:KidsN wr.heap.size w2 (.slice a1 L.length L.length) L:=⟨hk1.1.below bx zn2,k1⟩;
       have n9:g≠w2.heap.size:=Nat.ne_of_lt (zn4 hgl r3);have m1:g'≠w2.heap.size:=Nat.ne_of_lt (zn4 hgl' r3);have m2:g≠w2.heap.size+1:=Nat.ne_of_lt (Nat.lt_succ_of_lt (zn4 hgl r3));have m3:g'≠w2.heap.size+1:=Nat.ne_of_lt (Nat.lt_succ_of_lt (zn4 hgl' r3));
       have c2:=(bv.cell (p:=⟨g,st'.length,none⟩) hgl).trans hcell;have c2':=(bv.cell (p:=⟨g',st'.length,none⟩) hgl').trans hcell';
       (try with_reducible have qA:z4 w2 wr.heap.size:=B4.keep' bx pA);
       (try with_reducible have qB:z4 w2 (wr.heap.size+1):=B4.keep' bx pB);
       (try with_reducible have rA:z4 w2 w1.heap.size:=zC1 b2);
       (try with_reducible have rA:z4 w2 w1.heap.size:=zC2 b2);
       (try with_reducible have rB:z4 w2 (w1.heap.size+1):=zD2 b2);
       (try obtain ⟨qa0,qa1,qa2,qa3,qa4,qa5,qa6,qa7⟩:=id qA);
       (try have qax:=zbn qA);
       (try have qan:=Nat.ne_of_lt qA.lt);
       (try have qam:=(Nat.ne_of_lt qA.lt).symm);
       (try obtain ⟨qb0,qb1,qb2,qb3,qb4,qb5,qb6,qb7⟩:=id qB);
       (try have qbx:=zbn qB);
       (try have qbn:=Nat.ne_of_lt qB.lt);
       (try have qbm:=(Nat.ne_of_lt qB.lt).symm);
       (try obtain ⟨ra0,ra1,ra2,ra3,ra4,ra5,ra6,ra7⟩:=id rA);
       (try have rax:=zbn rA);
       (try have ran:=Nat.ne_of_lt rA.lt);
       (try have ram:=(Nat.ne_of_lt rA.lt).symm);
       (try obtain ⟨rb0,rb1,rb2,rb3,rb4,rb5,rb6,rb7⟩:=id rB);
       (try have rbx:=zbn rB);
       (try have rbn:=Nat.ne_of_lt rB.lt);
       (try have rbm:=(Nat.ne_of_lt rB.lt).symm);
       (try have pan:=Nat.ne_of_lt pA.lt);
       (try have pam:=(Nat.ne_of_lt pA.lt).symm);
       (try have pbn:=Nat.ne_of_lt pB.lt);
       (try have pbm:=(Nat.ne_of_lt pB.lt).symm))))
   all_goals (go_wp2_with fail;go_meet;refine ⟨rfl,rfl,rfl,_,_,a1,a2,rfl,rfl,?_⟩)
   all_goals first
    | (with_reducible exact zii bv K1 K2)
    | (with_reducible exact zio bv K1 K2)
    | ((with_reducible refine zgU bv hTI.out K1 K2 ?_ ?_ ?_ ?_ ?_)<;>first|assumption|omega)
    | ((with_reducible refine zh4 bv hTI.out K1 K2 ?_ ?_)<;>first|assumption|omega)
    | ((with_reducible refine zin bv hTI.out K1 K2 ?_ ?_)<;>first|assumption|omega)
  case rest=>
   obtain ⟨rfl,rfl,rfl,X,Y,a,a',rfl,rfl,hX,hY,K1,K2,lX,lY,bc⟩:=hcut
   obtain ⟨x0,x1,x2,x3⟩:=id hX
   obtain ⟨y0,y1,y2,y3⟩:=id hY
   have hal:=fun w1=>zcP k n s a L.length k' n' s' a' M.length (ziT hcl1).1 w1
   have hap:=za1 zaZ st' su' [⟨e1+1,mkT k n s ps⟩] [⟨e2+1,mkT k' n' s' qs⟩] hlen.out.symm
   have hap1:zax zaZ [⟨e1+1,mkT k n s ps⟩] [⟨e2+1,mkT k' n' s' qs⟩]=(zaZ ⟨e1+1,mkT k n s ps⟩ ⟨e2+1,mkT k' n' s' qs⟩ && true):=rfl
   have hVV:=hV.out
   rw [hap,hap1,Bool.and_true] at hVV
   cases hq:alk k n s k' n' s' with
   | false=>
    simp only [hq] at hal
    have hF:V=false:=by rw [<- hVV,zfH hq,Bool.and_false]
    subst hF
    clear hVV hap hap1 hV hO hL hC hC' hM hM' hTI hLH hMH HP HP' hlen hm hm' hcl1 hcl2 hq K1 K2 s1 h2 hX hY
    go_wp2_with (first
     | (go_at_call 74;refine (hal _).mono ?_;rintro e w3 ⟨rfl,b3⟩))
    go_ret
    exact ⟨rfl,(hb.trans (bc.mono hb.size)).trans (b3.mono (zn5 hb.size bc.size))⟩
   | true=>
    simp only [hq] at hal
    obtain ⟨hpq,hsam⟩:=zd8 hq hcl1 hcl2
    rw [hsam,<- zcE] at hVV
    have hV2:Hid (zax zaZ (st'++zO ps) (su'++zO qs)=V):=by show _=_;rw [za1 zaZ st' su' _ _ hlen.out.symm];exact hVV
    clear hVV hap hap1 hV hq s1 h2 hX hY
    have hgg:g≠g':=fun e=>hO.out g rfl (by rw [e];rfl)
    have hL2:L.length<=2:=by rw [<- hLH.out];simpa using (Cl.parts hcl1).1
    have hM2:M.length<=2:=by rw [<- hMH.out];simpa using (Cl.parts hcl2).1
    have hLn:Hid (L.length=ps.length):=by rw [<- hLH.out];show _=_;simp
    have hMn:Hid (M.length=qs.length):=by rw [<- hMH.out];show _=_;simp
    have hcx:zaa ⟨e1+1,mkT k n s ps⟩=(ps.map (cnt e1)).sum+1:=zau k n s ps
    have hcy:zaa ⟨e2+1,mkT k' n' s' qs⟩=(qs.map (cnt e2)).sum+1:=zau k' n' s' qs
    rw [hcx] at hm
    rw [hcy] at hm'
    have hNC:Hid (∀ y∈st'++zO ps,ClS y):=fun y hy=>by
     rcases List.mem_append.1 hy with h|h
     ·exact hC.out y (by simp [h])
     ·obtain ⟨p,hp,rfl⟩:=List.mem_map.1 h
      exact (Cl.parts hcl1).2 p hp
    have hNC':Hid (∀ y∈su'++zO qs,ClS y):=fun y hy=>by
     rcases List.mem_append.1 hy with h|h
     ·exact hC'.out y (by simp [h])
     ·obtain ⟨p,hp,rfl⟩:=List.mem_map.1 h
      exact (Cl.parts hcl2).2 p hp
    have hNM:Hid (((st'++zO ps).map zaa).sum<=(st'.map zaa).sum+(ps.map (cnt e1)).sum):=by show _<=_;rw [List.map_append,List.sum_append,zaP];exact Nat.le_refl _
    have hNM':Hid ((st'.map zaa).sum+(ps.map (cnt e1)).sum<=2000/\((su'++zO qs).map zaa).sum<=2000):=by
     refine ⟨by omega,?_⟩
     rw [List.map_append,List.sum_append,zaP]
     omega
    have hNL:Hid ((st'++zO ps).length=(su'++zO qs).length):=by show _=_;rw [List.length_append,List.length_append,za2,za2,hlen.out,hpq]
    have hgm:(st'.map zaa).sum+(ps.map (cnt e1)).sum < gk:=by omega
    have hxg:some X≠some g:=by simp;omega
    have hyg:some Y≠some g:=by simp;omega
    have hxg':some X≠some g':=by simp;omega
    have hyg':some Y≠some g':=by simp;omega
    have hqs:Hid (st'.length+M.length=su'.length+qs.length):=by show _=_;rw [hlen.out,hMn.out]
    clear hm hm' hcx hcy hC hC' hM hM' hL hcl1 hcl2 hsam hpq hO
    go_wp2_with (first
     | (go_at_call 74;refine (hal _).mono ?_;rintro e w3 ⟨rfl,b3⟩))
    have bcw:Below wr.heap.size wr w3:=bc.trans (b3.mono bc.size)
    have hA3:w3.drew.ownsRow w.heap.size 87 1 (.slice (some ⟨g,0,none⟩) st'.length cap) st'.length (st'.map exS):=HP.out.on bcw.drew zn2
    have hB3:w3.drew.ownsRow w.heap.size 87 1 (.slice (some ⟨g',0,none⟩) st'.length cap') st'.length (su'.map exS):=by
     have:=HP'.out.on bcw.drew zn2
     unfold Stk at this
     rw [hlen.out] at this
     exact this
    have K1':KidsN wr.heap.size w3.drew (.slice a L.length L.length) L:=KidsN.dr ⟨K1.1.below b3 zn2,K1.2⟩
    have K2':KidsN wr.heap.size w3.drew (.slice a' M.length M.length) M:=KidsN.dr ⟨K2.1.below b3 zn2,K2.2⟩
    have x4:w3.cell? ⟨X,3,none⟩=some (.slice a L.length L.length):=(b3.cell (p:=⟨X,3,none⟩) (World.block_lt_of_cell? _ _ x3)).trans x3
    have y4:w3.cell? ⟨Y,3,none⟩=some (.slice a' M.length M.length):=(b3.cell (p:=⟨Y,3,none⟩) (World.block_lt_of_cell? _ _ y3)).trans y3
    have hs3:w.heap.size<=w3.drew.heap.size:=zn5 hb.size bcw.size
    have hs4:=bcw.size
    have bbw:Below w.heap.size w w3.drew:=(hb.trans (bcw.mono hb.size)).drew
    clear HP HP' K1 K2 x0 x1 x2 x3 y0 y1 y2 y3 hal bc b3 hb
    go_region_held_law (fun w'=>w'.cell? ⟨X,3,none⟩=some (.slice a L.length L.length)/\w'.cell? ⟨Y,3,none⟩=some (.slice a' M.length M.length))
     (first
      | exact ⟨x4,y4⟩
      | exact ⟨x5,y5⟩
      | exact ⟨x6,y6⟩
      | go_keep)
     ((first
      | (have q1:=hA3;refine zA _ (by rfl) (.tmp 36) (.tmp 38) 144 144 (by rfl) w.heap.size 87 i0 .nilIface 1 16 Tryz.underlying144 hi hz0 hz1 hz2 rfl _ st'.length _ (by rfl) q1 _ L.length L (by rfl) (K1'.1.src hTI.out.1) L.length (.inr (by omega)) zn2 (by unfold maxLen;omega) hs3 ?_;intro v5 w5 ho5 hg5 hl5;have x5:=hg5.cell (zh x4) hxg;have y5:=hg5.cell (zh y4) hyg;have hB5:=World.ownsRow.kept hB3 hg5 (.inr (fun e=>hgg (by simpa [Value.ownBlock] using e.symm)));have K5:=K2'.gr hg5 hgl;clear hA3 q1)
      | (refine zA _ (by rfl) (.tmp 42) (.tmp 44) 144 144 (by rfl) w.heap.size 87 i0 .nilIface 1 16 Tryz.underlying144 hi hz0 hz1 hz2 rfl _ st'.length _ (by rfl) hB5 _ M.length M (by rfl) (K5.1.src hTI.out.2) M.length (.inr (by omega)) zn2 (by unfold maxLen;omega) (zn5 hs3 hg5.size) ?_;intro v6 w6 ho6 hg6 hl6;have x6:=hg6.cell x5 hxg';have y6:=hg6.cell y5 hyg')))
    have hz5:=World.ownsRow.lt ho5
    have hne5:v5.ownBlock≠some g':=fun e=>by
     rcases hl5 with q|q
     ·rw [e] at q
      exact hgg (by simpa [Value.ownBlock] using q.symm)
     ·rw [e] at q
      have q2:g'=w3.drew.heap.size:=by simpa using q
      have q3:w3.drew.heap.size=w3.heap.size:=rfl
      omega
    have hS5:Stk w6 w.heap.size v5 (st'++zO ps):=Stk.push (n:=st'.length+L.length) (by rw [hLn.out]) (by rw [hLH.out];exact World.ownsRow.kept ho5 hg6 (.inr hne5))
    have hS6:Stk w6 w.heap.size v6 (su'++zO qs):=Stk.push (n:=st'.length+M.length) hqs.out (by rw [hMH.out];exact ho6)
    have hO6:Hid (zgN v5 v6):=fun b h1 h2=>by
     rcases hl6 with q|q
     ·rw [h2] at q
      have q2:b=g':=by simpa [Value.ownBlock] using q
      exact hne5 (by rw [h1,q2])
     ·rw [h2] at q
      have q2:b=w5.heap.size:=by simpa using q
      have:=(hz5 b h1).2
      omega
    have b5:Below w.heap.size w w5:=bbw.grown hg5 hs3 (fun k hk=>by
     have e:g=k:=by simpa [Value.ownBlock] using hk
     omega)
    have b6:Below w.heap.size w w6:=b5.grown hg6 (zn5 hs3 hg5.size) (fun k hk=>by
     have e:g'=k:=by simpa [Value.ownBlock] using hk
     omega)
    clear ho5 ho6 hg5 hg6 hl5 hl6 hB5 K5 K1' K2' hB3 x4 y4 x5 y5 x6 y6 hz5 hne5 bbw b5 bcw hcell hcell'
    simp only [List.getElem_toArray,List.getElem_cons_succ,List.getElem_cons_zero,List.set_cons_succ,List.set_cons_zero,List.setIfInBounds_toArray]
    go_wp2
    go_roundg ((st'.map zaa).sum+(ps.map (cnt e1)).sum)
    case measure=>exact hgm
    case rel=>exact ⟨st'++zO ps,su'++zO qs,hS5,hS6,hO6,hNL,hNC,hNC',hV2,hNM,hNM',b6⟩
theorem znM:znJ:=by
 intro d e t u w hc hc' hn hn'
 have hs:Hid (zeW w (exV d t) (exV e u) (zaL d e t u)):=zi7 w hc hc' hn hn'
 rcases zaz d t with h|⟨u1,y1,h⟩<;>rcases zaz e u with h' | ⟨u2,y2,h'⟩<;>rw [h,h'] at hs ⊢
 ·exact znc hs
 ·exact znq hs
 ·exact zmV hs
 ·exact zmZ hs
theorem zal (l:List UInt8):∃ s:ByteArray,sV l=.string s/\bl s=l/\s.size=l.length:=⟨⟨l.toArray⟩,rfl,by unfold bl;simp,by show l.toArray.size=_;simp⟩
theorem zka {x y:Sx}(h:zgx x) (h':zgx y) (w:World):Calls Tryz.prog 55 #[exX x,exX y] w fun e w'=>e=.returned (.bool (zbR x y))/\Below w.heap.size w w':=znM x.1 y.1 x.2 y.2 w h.1 h'.1 h.2.1 h'.2.1
theorem zlK (s0 r0:ByteArray) (w:World) {e0 e1:Bool}(he0:(s0.toList == r0.toList)=e0) (hs:∀ w1,Below w.heap.size w w1->Calls Tryz.prog 55 #[.nilIface,.nilIface] w1 fun e w'=>e=.returned (.bool e1)/\Below w1.heap.size w1 w'):Calls Tryz.prog 57 #[.agg #[.string s0,.nilIface],.agg #[.string r0,.nilIface]] w fun e w'=>e=.returned (.bool (e0 && e1))/\Below w.heap.size w w':=by
 have hal:Below w.heap.size w ((w.alloc (.cells #[.string s0,.nilIface] 93)).alloc (.cells #[.string r0,.nilIface] 93)):=((Below.refl w.heap.size w).alloc zn2 _).alloc (by simp) _
 have hX:Bn ((w.alloc (.cells #[.string s0,.nilIface] 93)).alloc (.cells #[.string r0,.nilIface] 93)) w.heap.size [.string s0,.nilIface]:=(Bn.new w [.string s0,.nilIface] 93 _ rfl).on (zn3.alloc zn2 _)
 have hY:Bn ((w.alloc (.cells #[.string s0,.nilIface] 93)).alloc (.cells #[.string r0,.nilIface] 93)) (w.heap.size+1) [.string r0,.nilIface]:=Bn.new (w.alloc (.cells #[.string s0,.nilIface] 93)) [.string r0,.nilIface] 93 _ (by simp)
 go_enter Tryz.func57,Tryz.ntmps57
 go_upto_region 1 with fail
 generalize ((w.alloc (.cells #[.string s0,.nilIface] 93)).alloc (.cells #[.string r0,.nilIface] 93))=wx at *
 have hB:Below wx.heap.size wx wx:=Below.refl _ _
 have x0:=(hX 0 _ rfl).1
 have y0:=(hY 0 _ rfl).1
 have x1:=(hX 1 _ rfl).1
 have y1:=(hY 1 _ rfl).1
 cases e0 with
 | false=>
  go_wp2_with (first
   | (go_at_call 55;refine (hs _ (hal.trans (hB.mono hal.size))).mono ?_;rintro e w1 ⟨rfl,b1⟩;have hB:=Below.nx hB b1;skip)
   | fail)
  go_ret
  exact ⟨by first|rfl|simp,hal.trans (hB.mono hal.size)⟩
 | true=>
  go_wp2_with (first
   | (go_at_call 55;refine (hs _ (hal.trans (hB.mono hal.size))).mono ?_;rintro e w1 ⟨rfl,b1⟩;have hB:=Below.nx hB b1;skip)
   | fail)
  go_ret
  exact ⟨by first|rfl|simp,hal.trans (hB.mono hal.size)⟩
theorem zlS (s0 r0:ByteArray) (ru:TypeId) (ry:Value) (w:World) {e0 e1:Bool}(he0:(s0.toList == r0.toList)=e0) (hs:∀ w1,Below w.heap.size w w1->Calls Tryz.prog 55 #[.nilIface,.iface ru ry] w1 fun e w'=>e=.returned (.bool e1)/\Below w1.heap.size w1 w'):Calls Tryz.prog 57 #[.agg #[.string s0,.nilIface],.agg #[.string r0,.iface ru ry]] w fun e w'=>e=.returned (.bool (e0 && e1))/\Below w.heap.size w w':=by
 have hal:Below w.heap.size w ((w.alloc (.cells #[.string s0,.nilIface] 93)).alloc (.cells #[.string r0,.iface ru ry] 93)):=((Below.refl w.heap.size w).alloc zn2 _).alloc (by simp) _
 have hX:Bn ((w.alloc (.cells #[.string s0,.nilIface] 93)).alloc (.cells #[.string r0,.iface ru ry] 93)) w.heap.size [.string s0,.nilIface]:=(Bn.new w [.string s0,.nilIface] 93 _ rfl).on (zn3.alloc zn2 _)
 have hY:Bn ((w.alloc (.cells #[.string s0,.nilIface] 93)).alloc (.cells #[.string r0,.iface ru ry] 93)) (w.heap.size+1) [.string r0,.iface ru ry]:=Bn.new (w.alloc (.cells #[.string s0,.nilIface] 93)) [.string r0,.iface ru ry] 93 _ (by simp)
 go_enter Tryz.func57,Tryz.ntmps57
 go_upto_region 1 with fail
 generalize ((w.alloc (.cells #[.string s0,.nilIface] 93)).alloc (.cells #[.string r0,.iface ru ry] 93))=wx at *
 have hB:Below wx.heap.size wx wx:=Below.refl _ _
 have x0:=(hX 0 _ rfl).1
 have y0:=(hY 0 _ rfl).1
 have x1:=(hX 1 _ rfl).1
 have y1:=(hY 1 _ rfl).1
 cases e0 with
 | false=>
  go_wp2_with (first
   | (go_at_call 55;refine (hs _ (hal.trans (hB.mono hal.size))).mono ?_;rintro e w1 ⟨rfl,b1⟩;have hB:=Below.nx hB b1;skip)
   | fail)
  go_ret
  exact ⟨by first|rfl|simp,hal.trans (hB.mono hal.size)⟩
 | true=>
  go_wp2_with (first
   | (go_at_call 55;refine (hs _ (hal.trans (hB.mono hal.size))).mono ?_;rintro e w1 ⟨rfl,b1⟩;have hB:=Below.nx hB b1;skip)
   | fail)
  go_ret
  exact ⟨by first|rfl|simp,hal.trans (hB.mono hal.size)⟩
theorem zl8 (s0 r0:ByteArray) (tu:TypeId) (ty:Value) (w:World) {e0 e1:Bool}(he0:(s0.toList == r0.toList)=e0) (hs:∀ w1,Below w.heap.size w w1->Calls Tryz.prog 55 #[.iface tu ty,.nilIface] w1 fun e w'=>e=.returned (.bool e1)/\Below w1.heap.size w1 w'):Calls Tryz.prog 57 #[.agg #[.string s0,.iface tu ty],.agg #[.string r0,.nilIface]] w fun e w'=>e=.returned (.bool (e0 && e1))/\Below w.heap.size w w':=by
 have hal:Below w.heap.size w ((w.alloc (.cells #[.string s0,.iface tu ty] 93)).alloc (.cells #[.string r0,.nilIface] 93)):=((Below.refl w.heap.size w).alloc zn2 _).alloc (by simp) _
 have hX:Bn ((w.alloc (.cells #[.string s0,.iface tu ty] 93)).alloc (.cells #[.string r0,.nilIface] 93)) w.heap.size [.string s0,.iface tu ty]:=(Bn.new w [.string s0,.iface tu ty] 93 _ rfl).on (zn3.alloc zn2 _)
 have hY:Bn ((w.alloc (.cells #[.string s0,.iface tu ty] 93)).alloc (.cells #[.string r0,.nilIface] 93)) (w.heap.size+1) [.string r0,.nilIface]:=Bn.new (w.alloc (.cells #[.string s0,.iface tu ty] 93)) [.string r0,.nilIface] 93 _ (by simp)
 go_enter Tryz.func57,Tryz.ntmps57
 go_upto_region 1 with fail
 generalize ((w.alloc (.cells #[.string s0,.iface tu ty] 93)).alloc (.cells #[.string r0,.nilIface] 93))=wx at *
 have hB:Below wx.heap.size wx wx:=Below.refl _ _
 have x0:=(hX 0 _ rfl).1
 have y0:=(hY 0 _ rfl).1
 have x1:=(hX 1 _ rfl).1
 have y1:=(hY 1 _ rfl).1
 cases e0 with
 | false=>
  go_wp2_with (first
   | (go_at_call 55;refine (hs _ (hal.trans (hB.mono hal.size))).mono ?_;rintro e w1 ⟨rfl,b1⟩;have hB:=Below.nx hB b1;skip)
   | fail)
  go_ret
  exact ⟨by first|rfl|simp,hal.trans (hB.mono hal.size)⟩
 | true=>
  go_wp2_with (first
   | (go_at_call 55;refine (hs _ (hal.trans (hB.mono hal.size))).mono ?_;rintro e w1 ⟨rfl,b1⟩;have hB:=Below.nx hB b1;skip)
   | fail)
  go_ret
  exact ⟨by first|rfl|simp,hal.trans (hB.mono hal.size)⟩
theorem zlC (s0 r0:ByteArray) (tu:TypeId) (ty:Value) (ru:TypeId) (ry:Value) (w:World) {e0 e1:Bool}(he0:(s0.toList == r0.toList)=e0) (hs:∀ w1,Below w.heap.size w w1->Calls Tryz.prog 55 #[.iface tu ty,.iface ru ry] w1 fun e w'=>e=.returned (.bool e1)/\Below w1.heap.size w1 w'):Calls Tryz.prog 57 #[.agg #[.string s0,.iface tu ty],.agg #[.string r0,.iface ru ry]] w fun e w'=>e=.returned (.bool (e0 && e1))/\Below w.heap.size w w':=by
 have hal:Below w.heap.size w ((w.alloc (.cells #[.string s0,.iface tu ty] 93)).alloc (.cells #[.string r0,.iface ru ry] 93)):=((Below.refl w.heap.size w).alloc zn2 _).alloc (by simp) _
 have hX:Bn ((w.alloc (.cells #[.string s0,.iface tu ty] 93)).alloc (.cells #[.string r0,.iface ru ry] 93)) w.heap.size [.string s0,.iface tu ty]:=(Bn.new w [.string s0,.iface tu ty] 93 _ rfl).on (zn3.alloc zn2 _)
 have hY:Bn ((w.alloc (.cells #[.string s0,.iface tu ty] 93)).alloc (.cells #[.string r0,.iface ru ry] 93)) (w.heap.size+1) [.string r0,.iface ru ry]:=Bn.new (w.alloc (.cells #[.string s0,.iface tu ty] 93)) [.string r0,.iface ru ry] 93 _ (by simp)
 go_enter Tryz.func57,Tryz.ntmps57
 go_upto_region 1 with fail
 generalize ((w.alloc (.cells #[.string s0,.iface tu ty] 93)).alloc (.cells #[.string r0,.iface ru ry] 93))=wx at *
 have hB:Below wx.heap.size wx wx:=Below.refl _ _
 have x0:=(hX 0 _ rfl).1
 have y0:=(hY 0 _ rfl).1
 have x1:=(hX 1 _ rfl).1
 have y1:=(hY 1 _ rfl).1
 cases e0 with
 | false=>
  go_wp2_with (first
   | (go_at_call 55;refine (hs _ (hal.trans (hB.mono hal.size))).mono ?_;rintro e w1 ⟨rfl,b1⟩;have hB:=Below.nx hB b1;skip)
   | fail)
  go_ret
  exact ⟨by first|rfl|simp,hal.trans (hB.mono hal.size)⟩
 | true=>
  go_wp2_with (first
   | (go_at_call 55;refine (hs _ (hal.trans (hB.mono hal.size))).mono ?_;rintro e w1 ⟨rfl,b1⟩;have hB:=Below.nx hB b1;skip)
   | fail)
  go_ret
  exact ⟨by first|rfl|simp,hal.trans (hB.mono hal.size)⟩
theorem zjB  {ok ok':Nat->Prop}{w:World}{l:List (List UInt8 × Sx)}{l':List (List UInt8 × Sx)}{v v':Value}(h:RdK ok w 2 (zaq ok w) l v) (h':RdK ok' w 2 (zaq ok' w) l' v') (hok:∀ s∈l,zdS s) (hok':∀ s∈l',zdS s) :
  Calls Tryz.prog 56 #[v,v',.func (.func 57) #[] #[]] w fun e w'=>e=.returned (.bool (eqL sqS l l'))/\Below w.heap.size w w':=by
 obtain ⟨a,cap,rfl,hlc,hcm⟩:=h.form
 obtain ⟨a',cap',rfl,hlc',hcm'⟩:=h'.form
 unfold maxLen at hcm hcm'
 have HC:=zm h
 have HC':=zm h'
 have HK:=zm hok
 have HK':=zm hok'
 obtain ⟨V,hV⟩:∃ V,eqL sqS l l'=V:=⟨_,rfl⟩
 rw [hV]
 by_cases hne:l.length=l'.length
 ·have hV0:Hid (eqL sqS (l.drop 0) (l'.drop 0)=V):=hV
  rw [<- hne] at hlc' ⊢
  have HNE:=zm hne
  obtain ⟨n,hn⟩:∃ n,l.length=n:=⟨_,rfl⟩
  rw [hn] at hlc hlc' HNE ⊢
  have HN:Hid (l.length=n):=hn
  clear h h' hok hok' hn hV hne
  go_enter Tryz.func56,Tryz.ntmps56
  go_wp2
  go_loopw [17] (fun ix wr=>∃ (i:Nat),i<=n/\ix=.int .i64 (i:Int)/\Hid (eqL sqS (l.drop i) (l'.drop i)=V)/\Below w.heap.size w wr) (fun ix _=>n - (RowKit.intOf ix).toNat)
  case atStart=>exact ⟨0,Nat.zero_le _,rfl,hV0,Below.refl _ _⟩
  case round=>
   clear hV0
   obtain ⟨i,hi,rfl,HI,hb⟩:=hrel
   by_cases hlt:i < n
   ·have hil:i < l.length:=by rw [HN.out];exact hlt
    have hil':i < l'.length:=by rw [<- HNE.out];exact hlt
    have HI2:Hid ((sqS l[i] l'[i] && eqL sqS (l.drop (i+1)) (l'.drop (i+1)))=V):=by
     show _=_
     rw [<- zcB sqS hil hil'];exact HI.out
    clear HI
    obtain ⟨b,off,rfl,hbl,hc⟩:=zfx HC.out i hil
    obtain ⟨b',off',rfl,hbl',hc'⟩:=zfx HC'.out i hil'
    have hks:=HK.out _ (List.getElem_mem hil)
    have hks':=HK'.out _ (List.getElem_mem hil')
    obtain ⟨q,hq⟩:∃ q,l[i]=q:=⟨_,rfl⟩
    obtain ⟨p,hp⟩:∃ q,l'[i]=q:=⟨_,rfl⟩
    rw [hq] at hc hks HI2
    rw [hp] at hc' hks' HI2
    obtain ⟨s0,hs0,eb0,_⟩:=zal q.1
    obtain ⟨r0,hr0,eb1,_⟩:=zal p.1
    have hform:=zY q.2
    have hform':=zY p.2
    have hsm:=zka hks.2 hks'.2
    obtain ⟨R,hR⟩:∃ R,sqS q p=R:=⟨_,rfl⟩
    have hRR:(s0.toList == r0.toList && zbR q.2 p.2)=R:=by rw [zaK,eb0,eb1];exact hR
    rw [hR] at HI2
    obtain ⟨E,hE⟩:∃ E,zbR q.2 p.2=E:=⟨_,rfl⟩
    rw [hE] at hsm hRR
    obtain ⟨tv,htv⟩:∃ tv,exX q.2=tv:=⟨_,rfl⟩
    obtain ⟨rv,hrv⟩:∃ tv,exX p.2=tv:=⟨_,rfl⟩
    rw [hs0,htv] at hc
    rw [hr0,hrv] at hc'
    rw [htv] at hform hsm
    rw [hrv] at hform' hsm
    have HRR:=zm hRR
    clear hs0 hr0 htv hrv hq hp hks hks' hR hE hRR eb0 eb1
    have i1:(i:Int) < (n:Int):=by omega
    have i2:(0:Int)<=(i:Int):=by omega
    have C0:=(hb.cell (p:=⟨b,off+i*2+0,none⟩) hbl).trans (hc 0 _ rfl)
    have D0:=(hb.cell (p:=⟨b',off'+i*2+0,none⟩) hbl').trans (hc' 0 _ rfl)
    have C1:=(hb.cell (p:=⟨b,off+i*2+1,none⟩) hbl).trans (hc 1 _ rfl)
    have D1:=(hb.cell (p:=⟨b',off'+i*2+1,none⟩) hbl').trans (hc' 1 _ rfl)
    clear hc hc'
    rcases hform with rfl|⟨tu,ty,rfl⟩<;>rcases hform' with rfl|⟨ru,ry,rfl⟩
    ·have hal:Below wr.heap.size wr ((wr.alloc (.cells #[.string s0,.nilIface] 93)).alloc (.cells #[.string r0,.nilIface] 93)):=(zn3.alloc zn2 _).alloc (by simp) _
     have hX:Bn ((wr.alloc (.cells #[.string s0,.nilIface] 93)).alloc (.cells #[.string r0,.nilIface] 93)) wr.heap.size [.string s0,.nilIface]:=(Bn.new wr [.string s0,.nilIface] 93 _ rfl).on (zn3.alloc zn2 _)
     have hY:Bn ((wr.alloc (.cells #[.string s0,.nilIface] 93)).alloc (.cells #[.string r0,.nilIface] 93)) (wr.heap.size+1) [.string r0,.nilIface]:=Bn.new (wr.alloc (.cells #[.string s0,.nilIface] 93)) [.string r0,.nilIface] 93 _ (by simp)
     have hal1:=(Below.refl wr.heap.size wr).alloc zn2 (.cells #[.string s0,.nilIface] 93)
     have E0:=(hal1.cell (p:=⟨b',off'+i*2+0,none⟩) (zn4 hbl' hb.size)).trans D0
     have E1:=(hal1.cell (p:=⟨b',off'+i*2+1,none⟩) (zn4 hbl' hb.size)).trans D1
     rw [Nat.add_zero] at E0 C0
     have hbx:=hb.trans (hal.mono hb.size)
     have hcall:∀ w1,Below w.heap.size w w1->Calls Tryz.prog 57 #[.agg #[.string s0,.nilIface],.agg #[.string r0,.nilIface]] w1 fun e w'=>e=.returned (.bool R)/\Below w1.heap.size w1 w':=fun w1 _=>by rw [<- HRR.out];exact zlK s0 r0 w1 rfl (fun w2 _=>hsm w2)
     go_upto_region 7 with fail
     clear C0 D0 E0 C1 D1 E1 hal1
     generalize ((wr.alloc (.cells #[.string s0,.nilIface] 93)).alloc (.cells #[.string r0,.nilIface] 93))=wx at *
     have x0:=(hX 0 _ rfl).1
     have y0:=(hY 0 _ rfl).1
     have x1:=(hX 1 _ rfl).1
     have y1:=(hY 1 _ rfl).1
     cases R with
     | false=>
      have hV:V=false:=by rw [<- HI2.out];rfl
      subst hV
      go_wp2_with (first
       | (go_at_call 57;refine (hcall _ hbx).mono ?_;rintro e w1 ⟨rfl,b1⟩)
       | fail)
      go_ret
      exact ⟨rfl,hbx.trans (b1.mono hbx.size)⟩
     | true=>
      go_wp2_with (first
       | (go_at_call 57;refine (hcall _ hbx).mono ?_;rintro e w1 ⟨rfl,b1⟩)
       | fail)
      have hb2:=hbx.trans (b1.mono hbx.size)
      go_wp2
      go_roundw
      case rel=>exact ⟨i+1,hlt,by go_num,HI2,hb2⟩
      case measure=>simp [RowKit.intOf];omega
    ·have hal:Below wr.heap.size wr ((wr.alloc (.cells #[.string s0,.nilIface] 93)).alloc (.cells #[.string r0,.iface ru ry] 93)):=(zn3.alloc zn2 _).alloc (by simp) _
     have hX:Bn ((wr.alloc (.cells #[.string s0,.nilIface] 93)).alloc (.cells #[.string r0,.iface ru ry] 93)) wr.heap.size [.string s0,.nilIface]:=(Bn.new wr [.string s0,.nilIface] 93 _ rfl).on (zn3.alloc zn2 _)
     have hY:Bn ((wr.alloc (.cells #[.string s0,.nilIface] 93)).alloc (.cells #[.string r0,.iface ru ry] 93)) (wr.heap.size+1) [.string r0,.iface ru ry]:=Bn.new (wr.alloc (.cells #[.string s0,.nilIface] 93)) [.string r0,.iface ru ry] 93 _ (by simp)
     have hal1:=(Below.refl wr.heap.size wr).alloc zn2 (.cells #[.string s0,.nilIface] 93)
     have E0:=(hal1.cell (p:=⟨b',off'+i*2+0,none⟩) (zn4 hbl' hb.size)).trans D0
     have E1:=(hal1.cell (p:=⟨b',off'+i*2+1,none⟩) (zn4 hbl' hb.size)).trans D1
     rw [Nat.add_zero] at E0 C0
     have hbx:=hb.trans (hal.mono hb.size)
     have hcall:∀ w1,Below w.heap.size w w1->Calls Tryz.prog 57 #[.agg #[.string s0,.nilIface],.agg #[.string r0,.iface ru ry]] w1 fun e w'=>e=.returned (.bool R)/\Below w1.heap.size w1 w':=fun w1 _=>by rw [<- HRR.out];exact zlS s0 r0 ru ry w1 rfl (fun w2 _=>hsm w2)
     go_upto_region 7 with fail
     clear C0 D0 E0 C1 D1 E1 hal1
     generalize ((wr.alloc (.cells #[.string s0,.nilIface] 93)).alloc (.cells #[.string r0,.iface ru ry] 93))=wx at *
     have x0:=(hX 0 _ rfl).1
     have y0:=(hY 0 _ rfl).1
     have x1:=(hX 1 _ rfl).1
     have y1:=(hY 1 _ rfl).1
     cases R with
     | false=>
      have hV:V=false:=by rw [<- HI2.out];rfl
      subst hV
      go_wp2_with (first
       | (go_at_call 57;refine (hcall _ hbx).mono ?_;rintro e w1 ⟨rfl,b1⟩)
       | fail)
      go_ret
      exact ⟨rfl,hbx.trans (b1.mono hbx.size)⟩
     | true=>
      go_wp2_with (first
       | (go_at_call 57;refine (hcall _ hbx).mono ?_;rintro e w1 ⟨rfl,b1⟩)
       | fail)
      have hb2:=hbx.trans (b1.mono hbx.size)
      go_wp2
      go_roundw
      case rel=>exact ⟨i+1,hlt,by go_num,HI2,hb2⟩
      case measure=>simp [RowKit.intOf];omega
    ·have hal:Below wr.heap.size wr ((wr.alloc (.cells #[.string s0,.iface tu ty] 93)).alloc (.cells #[.string r0,.nilIface] 93)):=(zn3.alloc zn2 _).alloc (by simp) _
     have hX:Bn ((wr.alloc (.cells #[.string s0,.iface tu ty] 93)).alloc (.cells #[.string r0,.nilIface] 93)) wr.heap.size [.string s0,.iface tu ty]:=(Bn.new wr [.string s0,.iface tu ty] 93 _ rfl).on (zn3.alloc zn2 _)
     have hY:Bn ((wr.alloc (.cells #[.string s0,.iface tu ty] 93)).alloc (.cells #[.string r0,.nilIface] 93)) (wr.heap.size+1) [.string r0,.nilIface]:=Bn.new (wr.alloc (.cells #[.string s0,.iface tu ty] 93)) [.string r0,.nilIface] 93 _ (by simp)
     have hal1:=(Below.refl wr.heap.size wr).alloc zn2 (.cells #[.string s0,.iface tu ty] 93)
     have E0:=(hal1.cell (p:=⟨b',off'+i*2+0,none⟩) (zn4 hbl' hb.size)).trans D0
     have E1:=(hal1.cell (p:=⟨b',off'+i*2+1,none⟩) (zn4 hbl' hb.size)).trans D1
     rw [Nat.add_zero] at E0 C0
     have hbx:=hb.trans (hal.mono hb.size)
     have hcall:∀ w1,Below w.heap.size w w1->Calls Tryz.prog 57 #[.agg #[.string s0,.iface tu ty],.agg #[.string r0,.nilIface]] w1 fun e w'=>e=.returned (.bool R)/\Below w1.heap.size w1 w':=fun w1 _=>by rw [<- HRR.out];exact zl8 s0 r0 tu ty w1 rfl (fun w2 _=>hsm w2)
     go_upto_region 7 with fail
     clear C0 D0 E0 C1 D1 E1 hal1
     generalize ((wr.alloc (.cells #[.string s0,.iface tu ty] 93)).alloc (.cells #[.string r0,.nilIface] 93))=wx at *
     have x0:=(hX 0 _ rfl).1
     have y0:=(hY 0 _ rfl).1
     have x1:=(hX 1 _ rfl).1
     have y1:=(hY 1 _ rfl).1
     cases R with
     | false=>
      have hV:V=false:=by rw [<- HI2.out];rfl
      subst hV
      go_wp2_with (first
       | (go_at_call 57;refine (hcall _ hbx).mono ?_;rintro e w1 ⟨rfl,b1⟩)
       | fail)
      go_ret
      exact ⟨rfl,hbx.trans (b1.mono hbx.size)⟩
     | true=>
      go_wp2_with (first
       | (go_at_call 57;refine (hcall _ hbx).mono ?_;rintro e w1 ⟨rfl,b1⟩)
       | fail)
      have hb2:=hbx.trans (b1.mono hbx.size)
      go_wp2
      go_roundw
      case rel=>exact ⟨i+1,hlt,by go_num,HI2,hb2⟩
      case measure=>simp [RowKit.intOf];omega
    ·have hal:Below wr.heap.size wr ((wr.alloc (.cells #[.string s0,.iface tu ty] 93)).alloc (.cells #[.string r0,.iface ru ry] 93)):=(zn3.alloc zn2 _).alloc (by simp) _
     have hX:Bn ((wr.alloc (.cells #[.string s0,.iface tu ty] 93)).alloc (.cells #[.string r0,.iface ru ry] 93)) wr.heap.size [.string s0,.iface tu ty]:=(Bn.new wr [.string s0,.iface tu ty] 93 _ rfl).on (zn3.alloc zn2 _)
     have hY:Bn ((wr.alloc (.cells #[.string s0,.iface tu ty] 93)).alloc (.cells #[.string r0,.iface ru ry] 93)) (wr.heap.size+1) [.string r0,.iface ru ry]:=Bn.new (wr.alloc (.cells #[.string s0,.iface tu ty] 93)) [.string r0,.iface ru ry] 93 _ (by simp)
     have hal1:=(Below.refl wr.heap.size wr).alloc zn2 (.cells #[.string s0,.iface tu ty] 93)
     have E0:=(hal1.cell (p:=⟨b',off'+i*2+0,none⟩) (zn4 hbl' hb.size)).trans D0
     have E1:=(hal1.cell (p:=⟨b',off'+i*2+1,none⟩) (zn4 hbl' hb.size)).trans D1
     rw [Nat.add_zero] at E0 C0
     have hbx:=hb.trans (hal.mono hb.size)
     have hcall:∀ w1,Below w.heap.size w w1->Calls Tryz.prog 57 #[.agg #[.string s0,.iface tu ty],.agg #[.string r0,.iface ru ry]] w1 fun e w'=>e=.returned (.bool R)/\Below w1.heap.size w1 w':=fun w1 _=>by rw [<- HRR.out];exact zlC s0 r0 tu ty ru ry w1 rfl (fun w2 _=>hsm w2)
     go_upto_region 7 with fail
     clear C0 D0 E0 C1 D1 E1 hal1
     generalize ((wr.alloc (.cells #[.string s0,.iface tu ty] 93)).alloc (.cells #[.string r0,.iface ru ry] 93))=wx at *
     have x0:=(hX 0 _ rfl).1
     have y0:=(hY 0 _ rfl).1
     have x1:=(hX 1 _ rfl).1
     have y1:=(hY 1 _ rfl).1
     cases R with
     | false=>
      have hV:V=false:=by rw [<- HI2.out];rfl
      subst hV
      go_wp2_with (first
       | (go_at_call 57;refine (hcall _ hbx).mono ?_;rintro e w1 ⟨rfl,b1⟩)
       | fail)
      go_ret
      exact ⟨rfl,hbx.trans (b1.mono hbx.size)⟩
     | true=>
      go_wp2_with (first
       | (go_at_call 57;refine (hcall _ hbx).mono ?_;rintro e w1 ⟨rfl,b1⟩)
       | fail)
      have hb2:=hbx.trans (b1.mono hbx.size)
      go_wp2
      go_roundw
      case rel=>exact ⟨i+1,hlt,by go_num,HI2,hb2⟩
      case measure=>simp [RowKit.intOf];omega
   ·have i1:¬ (i:Int) < (n:Int):=by omega
    have hV:V=true:=by
     rw [<- HI.out]
     exact zbO sqS (by rw [HN.out];omega) (by rw [<- HNE.out];omega)
    subst hV
    go_wp2
    go_ret
    exact ⟨rfl,hb⟩
 ·have hV2:V=false:=by rw [<- hV];exact zci sqS l l' hne
  subst hV2
  have hne2:((l.length:Int) == (l'.length:Int))=false:=by rw [beq_eq_false_iff_ne];omega
  have hne3:((l.length:Int) != (l'.length:Int))=true:=by simp only [bne,hne2];rfl
  generalize l.length=n at *
  generalize l'.length=n' at *
  clear HC HC' HK HK' hV h h' hok hok' hne
  go_enter Tryz.func56,Tryz.ntmps56
  go_wp2
  go_ret
  exact ⟨rfl,Below.refl _ _⟩
