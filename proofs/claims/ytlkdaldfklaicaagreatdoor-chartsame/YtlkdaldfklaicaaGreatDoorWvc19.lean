import Derived.Test.YtlkdaldfklaicaaGreatDoorWvc01
import Derived.Test.YtlkdaldfklaicaaGreatDoorWvc04
set_option maxRecDepth 100000
set_option maxHeartbeats 32000000
namespace Go.Proofs.YtlkdaldfklaicaaGreatDoor
open Go.RowKit
set_option linter.unusedSimpArgs false
set_option linter.unusedVariables false
theorem Tryz.infoN:(Tryz.prog.info? 79).map (fun i=>(i.zero,i.size,i.bytes))=some (some (.agg #[.int .i64 0,.int .i64 0,.string ⟨#[]⟩,.slice none 0 0]),4,56):=by kernel_rfl
def zhM (d:Nat):Prop:=∀ (ok:Nat->Prop) (t:T d) (v:Value) (w:World),RdT ok w d t v->
 Calls Tryz.prog 37 #[v] w fun e w'=>∃ u,e=.returned u/\RdT (fun b=>w.heap.size<=b) w' (d+1) (cln d t) u/\Below w.heap.size w w'
theorem zg5 (d:Nat) (IH:zhM d):zhM (d+1):=by
 intro ok t v w h
 obtain ⟨k,n,s,ps,rfl⟩:=T.open t
 obtain ⟨sl,rfl,hp⟩:=zaT.1 h
 obtain ⟨i0,hi,hz0,hz1,hz2⟩:=info_parts Tryz.infoN
 rw [zet]
 by_cases k1:k=1
 ·subst k1
  rw [if_pos rfl]
  clear hp h
  go_enter Tryz.func37,Tryz.ntmps37
  go_wp2
  exact bodyPost_ret (v:=.agg #[.int .i64 1,.int .i64 n,.string ⟨#[]⟩,.slice none 0 0]) (by simp [results,Tryz.results37,go_sem]) rfl ⟨_,rfl,⟨_,rfl,zcA _ _⟩,((zn3.alloc zn2 _).alloc (by simp) _).alloc (by simp;omega) _⟩
 rw [if_neg k1]
 have e1:(k == 1)=false:=beq_eq_false_iff_ne.2 k1
 by_cases k2:k=2
 ·subst k2
  rw [if_pos rfl]
  clear hp h
  go_enter Tryz.func37,Tryz.ntmps37
  go_wp2
  exact bodyPost_ret (v:=.agg #[.int .i64 2,.int .i64 0,.string s,.slice none 0 0]) (by simp [results,Tryz.results37,go_sem]) rfl ⟨_,rfl,⟨_,rfl,zcA _ _⟩,((zn3.alloc zn2 _).alloc (by simp) _).alloc (by simp;omega) _⟩
 rw [if_neg k2]
 have e2:(k == 2)=false:=beq_eq_false_iff_ne.2 k2
 by_cases k3:k=3
 ·subst k3
  rw [if_pos rfl]
  obtain ⟨a,cap,rfl,hlc,hcm,hcell⟩:=hp.form
  have HC:Hid (∀ (i:Nat) (hi:i < ps.length),∃ b off c0 c1 c2 c3,a=some ⟨b,off,none⟩/\b < w.heap.size/\RdT ok w d ps[i] (.agg #[c0,c1,c2,c3])/\w.cell? ⟨b,off+i*4,none⟩=some c0/\w.cell? ⟨b,off+i*4+1,none⟩=some c1/\w.cell? ⟨b,off+i*4+2,none⟩=some c2/\w.cell? ⟨b,off+i*4+3,none⟩=some c3):=hcell
  have hLL:∃ LL:List (T (d+1)),LL=[prt ps 0]:=⟨_,rfl⟩
  obtain ⟨LL,hLL⟩:=hLL
  have hLn:Hid (LL.length=1):=by rw [hLL];rfl
  have HL:Hid (∀ (j:Nat) (hj:j < LL.length),LL[j]=prt ps j):=fun j hj=>by
   subst hLL
   match j,hj with
   | 0,_=>rfl
   | 1,hj=>first|rfl|simp at hj
   | j+2,hj=>exact absurd hj (by simp)
  rw [<- hLL]
  clear hLL hcell
  go_enter Tryz.func37,Tryz.ntmps37
  go_wp2
  go_loopw [32] (fun c wr=>∃ j:Nat,j<=1/\c=.int .i64 (j:Int)/\(∃ sv,B4 wr (w.heap.size+2) (.int .i64 3) (.int .i64 0) (.string ⟨#[]⟩) sv/\OwnN wr (w.heap.size+3) sv (LL.take j))/\B4 wr w.heap.size (.int .i64 3) (.int .i64 n) (.string s) (.slice a ps.length cap)/\B4 wr (w.heap.size+1) (.int .i64 0) (.int .i64 0) (.string ⟨#[]⟩) (.slice none 0 0)/\Below w.heap.size w wr) (fun c _=>1 - (RowKit.intOf c).toNat)
  case atStart=>
   refine ⟨0,by omega,rfl,⟨_,B4.new _ _ _ _ _ _ _ (by simp),zeC _ _⟩,?_,?_,((zn3.alloc zn2 _).alloc (by simp) _).alloc (by simp;omega) _⟩
   ·exact ((B4.new w _ _ _ _ 79 _ rfl).keep (zn3.alloc zn2 _)).keep (zn3.alloc zn2 _)
   ·exact (B4.new _ _ _ _ _ 79 _ (by simp)).keep (zn3.alloc zn2 _)
  case round=>
   obtain ⟨j,hj,rfl,⟨sv,hB2,hO⟩,hB0,hB1,hb⟩:=hrel
   have hln:=hLn.out
   have hlen:(LL.take j).length=j:=by rw [List.length_take];omega
   obtain ⟨va,vc,hsv⟩:=hO.form
   rw [hlen] at hsv
   subst hsv
   have hs3:w.heap.size+3<=wr.heap.size:=by have:=hB2.lt;omega
   by_cases hlt:j < 1
   ·have i1:(j:Int) < 1:=by omega
    have i2:(0:Int)<=(j:Int):=by omega
    have hLj:=HL.out j (by omega)
    have htk:LL.take (j+1)=LL.take j++[LL[j]'(by omega)]:=List.take_succ_eq_append_getElem (by omega)
    obtain ⟨lj,hlj⟩:∃ lj,LL[j]'(by omega)=lj:=⟨_,rfl⟩
    rw [hlj] at hLj htk
    clear hlj
    clear hln
    have bx:=(Below.refl wr.heap.size wr).alloc zn2 (.cells #[.int .i64 0,.int .i64 0,.string ⟨#[]⟩,.slice none 0 0] 79)
    have hX:=B4.new wr (.int .i64 0) (.int .i64 0) (.string ⟨#[]⟩) (.slice none 0 0) 79 _ rfl
    have A0:=hB0.keep bx
    have A1:=hB1.keep bx
    have A2:=hB2.keep bx
    have AO:=hO.below bx
    have hb1:=hb.alloc hb.size (.cells #[.int .i64 0,.int .i64 0,.string ⟨#[]⟩,.slice none 0 0] 79)
    have hg0:∀ g,(Value.slice va j vc).ownBlock=some g->g < wr.heap.size:=fun g hg=>by obtain ⟨qs,ho,_⟩:=hO;exact (zC ho g hg).2
    by_cases hin:j < ps.length
    ·
     obtain ⟨b,off,c0,c1,c2,c3,rfl,hbl,hr,q0,q1,q2,q3⟩:=HC.out j hin
     have C0:=(hb1.cell (p:=⟨b,off+j*4,none⟩) hbl).trans q0
     have C1:=(hb1.cell (p:=⟨b,off+j*4+1,none⟩) hbl).trans q1
     have C2:=(hb1.cell (p:=⟨b,off+j*4+2,none⟩) hbl).trans q2
     have C3:=(hb1.cell (p:=⟨b,off+j*4+3,none⟩) hbl).trans q3
     have hcall:=IH ok ps[j] _ _ (RdT.below hb1 zn2 hr)
     have hLc:lj=cln d ps[j]:=by rw [hLj];unfold prt;rw [List.getElem?_eq_getElem hin]
     have i3:(j:Int) < (ps.length:Int):=by omega
     obtain ⟨a0,a1,a2,a3,_,_,_,_⟩:=id A0
     clear q0 q1 q2 q3 hr hbl hLj
     go_wp2_with (first
      | (go_at_call 37;refine hcall.mono ?_;rintro e w2 ⟨u,rfl,hRu,b2⟩;obtain ⟨ck,cn,cs,cps,hck⟩:=T.open (cln d ps[j]);rw [hck] at hRu;obtain ⟨csl,rfl,hcp⟩:=zaT.1 hRu;obtain ⟨ca,cc,rfl,_⟩:=hcp.form;have D0:=A0.keep b2;have D1:=A1.keep b2;have D2:=A2.keep b2;have DX:=hX.keep b2;have bw2:Below wr.heap.size wr w2:=bx.trans (b2.mono (by simp));have hb2:=hb1.trans (b2.mono hb1.size);obtain ⟨x0,x1,x2,x3,x4,x5,x6,x7⟩:=id DX;have EX:=DX.put (.int .i64 ck) (.int .i64 cn) (.string cs) (.slice ca cps.length cc);obtain ⟨y0,y1,y2,y3,y4,y5,y6,y7⟩:=id EX;have E2:=D2.farPut (X:=wr.heap.size) (by omega) (.int .i64 ck) (.int .i64 cn) (.string cs) (.slice ca cps.length cc);obtain ⟨z0,z1,z2,z3,z4,z5,z6,z7⟩:=id E2;have E0:=D0.farPut (X:=wr.heap.size) (by omega) (.int .i64 ck) (.int .i64 cn) (.string cs) (.slice ca cps.length cc);have E1:=D1.farPut (X:=wr.heap.size) (by omega) (.int .i64 ck) (.int .i64 cn) (.string cs) (.slice ca cps.length cc);have bw3:=zD bw2 zn2 (.int .i64 ck) (.int .i64 cn) (.string cs) (.slice ca cps.length cc);have hb3:=zD hb2 (X:=wr.heap.size) (by omega) (.int .i64 ck) (.int .i64 cn) (.string cs) (.slice ca cps.length cc);have hR3:RdT (fun b=>wr.heap.size+1<=b) (put4 w2 wr.heap.size (.int .i64 ck) (.int .i64 cn) (.string cs) (.slice ca cps.length cc)) (d+1) lj (.agg #[.int .i64 ck,.int .i64 cn,.string cs,.slice ca cps.length cc]):=(by rw [hLc,hck];exact RdT.keep (fun b hb _=>⟨by simpa using hb,zaf (by have:wr.heap.size+1<=b:=(by simpa using hb);omega) _ _ _ _⟩) hRu);obtain ⟨W3,hW3⟩:∃ W3,put4 w2 wr.heap.size (.int .i64 ck) (.int .i64 cn) (.string cs) (.slice ca cps.length cc)=W3:=⟨_,rfl⟩;rw [hW3] at y0 y1 y2 y3 y4 y5 y6 y7 z0 z1 z2 z3 z4 z5 z6 z7 E0 E1 E2 EX bw3 hb3 hR3;clear hcall a0 a1 a2 a3 C0 C1 C2 C3 D0 D1 D2 DX bw2 hb2 hRu hcp A0 A1 A2 AO hb1 hX bx b2;have hs5:w.heap.size+3<=W3.heap.size:=zn5 hs3 bw3.size;obtain ⟨qs,ho4,hql,hqr⟩:=hO.below (bw3.alloc bw3.size (.cells #[.int .i64 ck,.int .i64 cn,.string cs,.slice ca cps.length cc] 79));rw [hlen] at ho4;have hR4:=RdT.below ((Below.refl W3.heap.size W3).alloc zn2 (.cells #[.int .i64 ck,.int .i64 cn,.string cs,.slice ca cps.length cc] 79)) zn2 hR3;clear hO bw3 hR3)
      | (at_builtin;refine wpList_append_lies _ rfl _ _ _ rfl (w.heap.size+3) 79 i0 (.agg #[.int .i64 0,.int .i64 0,.string ⟨#[]⟩,.slice none 0 0]) 4 56 Tryz.underlying77 hi hz0 hz1 hz2 rfl (by omega) (.slice va j vc) j (za3 qs) rfl ho4 ⟨W3.heap.size,0,none⟩ 1 1 [.int .i64 ck,.int .i64 cn,.string cs,.slice ca cps.length cc] rfl rfl (zfk W3 _ _ _ _ _) (by simp [Value.oneCell']) (by omega) (by unfold maxLen;omega) (by omega) (by simp;omega) (W3.heap.size+1) (by simp) ?_;intro g gcap w5 hown5 hgr5 hat5 hlt5;have OO:=OwnN.snoc hlen ho4 hql hqr hown5 hgr5 (by simpa using hat5) hR4 (by omega) (fun x hx=>Nat.lt_succ_of_lt (hg0 x hx));rw [<- htk] at OO;have bel5:Below (w.heap.size+3) W3 w5:=(zn3.alloc hs5 _).grown hgr5 (by simp;omega) (fun k hk=>(World.ownsRow.lt ho4 k hk).1);have G0:=E0.keepB bel5 (by omega);have G1:=E1.keepB bel5 (by omega);have G2:=E2.keepB bel5 (by omega);have hb5:=hb3.trans (bel5.mono (by omega));obtain ⟨p0,p1,p2,p3,p4,p5,p6,p7⟩:=id G2;clear hown5 hgr5 hat5 hlt5 bel5 ho4 hqr hR4))
     go_roundw
     case rel=>exact ⟨j+1,by omega,by go_num,⟨_,G2.set3 _,OO.set (by omega) _⟩,G0.far (by omega) _,G1.far (by omega) _,hb5.setCell (by simp;omega) _⟩
     case measure=>simp [RowKit.intOf];omega
    ·
     have hLc:lj=zaM:=by rw [hLj];unfold prt;rw [List.getElem?_eq_none (by omega)]
     have i3:¬ (j:Int) < (ps.length:Int):=by omega
     obtain ⟨a0,a1,a2,a3,_,_,_,_⟩:=id A0
     obtain ⟨y0,y1,y2,y3,y4,y5,y6,y7⟩:=id hX
     obtain ⟨z0,z1,z2,z3,z4,z5,z6,z7⟩:=id A2
     have hs5:w.heap.size+3<=(wr.alloc (.cells #[.int .i64 0,.int .i64 0,.string ⟨#[]⟩,.slice none 0 0] 79)).heap.size:=zn5 hs3 bx.size
     obtain ⟨qs,ho4,hql,hqr⟩:=hO.below (bx.alloc bx.size (.cells #[.int .i64 0,.int .i64 0,.string ⟨#[]⟩,.slice none 0 0] 79))
     rw [hlen] at ho4
     have hR4:RdT (fun b=>wr.heap.size+1<=b) ((wr.alloc (.cells #[.int .i64 0,.int .i64 0,.string ⟨#[]⟩,.slice none 0 0] 79)).alloc (.cells #[.int .i64 0,.int .i64 0,.string ⟨#[]⟩,.slice none 0 0] 79)) (d+1) lj (.agg #[.int .i64 0,.int .i64 0,.string ⟨#[]⟩,.slice none 0 0]):=by rw [hLc];exact zbZ _ _
     have hnews:=zfk (wr.alloc (.cells #[.int .i64 0,.int .i64 0,.string ⟨#[]⟩,.slice none 0 0] 79)) (.int .i64 0) (.int .i64 0) (.string ⟨#[]⟩) (.slice none 0 0) 79
     rw [show (wr.alloc (.cells #[.int .i64 0,.int .i64 0,.string ⟨#[]⟩,.slice none 0 0] 79)).heap.size=wr.heap.size+1 by simp] at hnews
     clear hLj AO hX hO bx
     go_wp2_with (first
      | (at_builtin;refine wpList_append_lies _ rfl _ _ _ rfl (w.heap.size+3) 79 i0 (.agg #[.int .i64 0,.int .i64 0,.string ⟨#[]⟩,.slice none 0 0]) 4 56 Tryz.underlying77 hi hz0 hz1 hz2 rfl (by omega) (.slice va j vc) j (za3 qs) rfl ho4 ⟨wr.heap.size+1,0,none⟩ 1 1 [.int .i64 0,.int .i64 0,.string ⟨#[]⟩,.slice none 0 0] rfl rfl hnews (by simp [Value.oneCell']) (by omega) (by unfold maxLen;omega) (by omega) (by simp;omega) (wr.heap.size+1+1) (by simp) ?_;intro g gcap w5 hown5 hgr5 hat5 hlt5;have OO:=OwnN.snoc hlen ho4 hql hqr hown5 hgr5 (by simpa using hat5) hR4 (by omega) (fun x hx=>Nat.lt_succ_of_lt (hg0 x hx));rw [<- htk] at OO;have bel5:Below (w.heap.size+3) (wr.alloc (.cells #[.int .i64 0,.int .i64 0,.string ⟨#[]⟩,.slice none 0 0] 79)) w5:=(zn3.alloc hs5 _).grown hgr5 (by simp;omega) (fun k hk=>(World.ownsRow.lt ho4 k hk).1);have G0:=A0.keepB bel5 (by omega);have G1:=A1.keepB bel5 (by omega);have G2:=A2.keepB bel5 (by omega);have hb5:=hb1.trans (bel5.mono (by omega));obtain ⟨p0,p1,p2,p3,p4,p5,p6,p7⟩:=id G2;clear hown5 hgr5 hat5 hlt5 bel5 ho4 hqr hR4))
     go_roundw
     case rel=>exact ⟨j+1,by omega,by go_num,⟨_,G2.set3 _,OO.set (by omega) _⟩,G0.far (by omega) _,G1.far (by omega) _,hb5.setCell (by simp;omega) _⟩
     case measure=>simp [RowKit.intOf];omega
   ·have i1:¬ (j:Int) < 1:=by omega
    have hj2:j=1:=by omega
    rw [List.take_of_length_le (by omega)] at hO
    clear hln hlen
    subst hj2
    obtain ⟨z0,z1,z2,z3,z4,z5,z6,z7⟩:=id hB2
    obtain ⟨x0,x1,x2,x3,x4,x5,x6,x7⟩:=id hB1
    have E1:=hB1.put (.int .i64 3) (.int .i64 0) (.string ⟨#[]⟩) (.slice va 1 vc)
    obtain ⟨y0,y1,y2,y3,y4,y5,y6,y7⟩:=id E1
    have bq:Below w.heap.size w (put4 wr (w.heap.size+1) (.int .i64 3) (.int .i64 0) (.string ⟨#[]⟩) (.slice va 1 vc)):=zD hb (by omega) _ _ _ _
    have hO2:OwnN (put4 wr (w.heap.size+1) (.int .i64 3) (.int .i64 0) (.string ⟨#[]⟩) (.slice va 1 vc)) (w.heap.size+3) (.slice va 1 vc) LL:=hO.keep (fun b hb _=>zaf (by omega) _ _ _ _)
    clear hB0 hB1 hB2 hO E1
    go_wp2
    exact bodyPost_ret (v:=.agg #[.int .i64 3,.int .i64 0,.string ⟨#[]⟩,.slice va 1 vc]) (by simp [results,Tryz.results37,go_sem,y0,y1,y2,y3]) rfl ⟨_,rfl,⟨_,rfl,OwnN.base hO2.rd (by omega)⟩,bq⟩
 rw [if_neg k3]
 have e3:(k == 3)=false:=beq_eq_false_iff_ne.2 k3
 by_cases k4:k=4
 ·subst k4
  rw [if_pos rfl]
  obtain ⟨a,cap,rfl,hlc,hcm,hcell⟩:=hp.form
  have HC:Hid (∀ (i:Nat) (hi:i < ps.length),∃ b off c0 c1 c2 c3,a=some ⟨b,off,none⟩/\b < w.heap.size/\RdT ok w d ps[i] (.agg #[c0,c1,c2,c3])/\w.cell? ⟨b,off+i*4,none⟩=some c0/\w.cell? ⟨b,off+i*4+1,none⟩=some c1/\w.cell? ⟨b,off+i*4+2,none⟩=some c2/\w.cell? ⟨b,off+i*4+3,none⟩=some c3):=hcell
  have hLL:∃ LL:List (T (d+1)),LL=[prt ps 0]:=⟨_,rfl⟩
  obtain ⟨LL,hLL⟩:=hLL
  have hLn:Hid (LL.length=1):=by rw [hLL];rfl
  have HL:Hid (∀ (j:Nat) (hj:j < LL.length),LL[j]=prt ps j):=fun j hj=>by
   subst hLL
   match j,hj with
   | 0,_=>rfl
   | 1,hj=>first|rfl|simp at hj
   | j+2,hj=>exact absurd hj (by simp)
  rw [<- hLL]
  clear hLL hcell
  go_enter Tryz.func37,Tryz.ntmps37
  go_wp2
  go_loopw [32] (fun c wr=>∃ j:Nat,j<=1/\c=.int .i64 (j:Int)/\(∃ sv,B4 wr (w.heap.size+2) (.int .i64 4) (.int .i64 0) (.string ⟨#[]⟩) sv/\OwnN wr (w.heap.size+3) sv (LL.take j))/\B4 wr w.heap.size (.int .i64 4) (.int .i64 n) (.string s) (.slice a ps.length cap)/\B4 wr (w.heap.size+1) (.int .i64 0) (.int .i64 0) (.string ⟨#[]⟩) (.slice none 0 0)/\Below w.heap.size w wr) (fun c _=>1 - (RowKit.intOf c).toNat)
  case atStart=>
   refine ⟨0,by omega,rfl,⟨_,B4.new _ _ _ _ _ _ _ (by simp),zeC _ _⟩,?_,?_,((zn3.alloc zn2 _).alloc (by simp) _).alloc (by simp;omega) _⟩
   ·exact ((B4.new w _ _ _ _ 79 _ rfl).keep (zn3.alloc zn2 _)).keep (zn3.alloc zn2 _)
   ·exact (B4.new _ _ _ _ _ 79 _ (by simp)).keep (zn3.alloc zn2 _)
  case round=>
   obtain ⟨j,hj,rfl,⟨sv,hB2,hO⟩,hB0,hB1,hb⟩:=hrel
   have hln:=hLn.out
   have hlen:(LL.take j).length=j:=by rw [List.length_take];omega
   obtain ⟨va,vc,hsv⟩:=hO.form
   rw [hlen] at hsv
   subst hsv
   have hs3:w.heap.size+3<=wr.heap.size:=by have:=hB2.lt;omega
   by_cases hlt:j < 1
   ·have i1:(j:Int) < 1:=by omega
    have i2:(0:Int)<=(j:Int):=by omega
    have hLj:=HL.out j (by omega)
    have htk:LL.take (j+1)=LL.take j++[LL[j]'(by omega)]:=List.take_succ_eq_append_getElem (by omega)
    obtain ⟨lj,hlj⟩:∃ lj,LL[j]'(by omega)=lj:=⟨_,rfl⟩
    rw [hlj] at hLj htk
    clear hlj
    clear hln
    have bx:=(Below.refl wr.heap.size wr).alloc zn2 (.cells #[.int .i64 0,.int .i64 0,.string ⟨#[]⟩,.slice none 0 0] 79)
    have hX:=B4.new wr (.int .i64 0) (.int .i64 0) (.string ⟨#[]⟩) (.slice none 0 0) 79 _ rfl
    have A0:=hB0.keep bx
    have A1:=hB1.keep bx
    have A2:=hB2.keep bx
    have AO:=hO.below bx
    have hb1:=hb.alloc hb.size (.cells #[.int .i64 0,.int .i64 0,.string ⟨#[]⟩,.slice none 0 0] 79)
    have hg0:∀ g,(Value.slice va j vc).ownBlock=some g->g < wr.heap.size:=fun g hg=>by obtain ⟨qs,ho,_⟩:=hO;exact (zC ho g hg).2
    by_cases hin:j < ps.length
    ·
     obtain ⟨b,off,c0,c1,c2,c3,rfl,hbl,hr,q0,q1,q2,q3⟩:=HC.out j hin
     have C0:=(hb1.cell (p:=⟨b,off+j*4,none⟩) hbl).trans q0
     have C1:=(hb1.cell (p:=⟨b,off+j*4+1,none⟩) hbl).trans q1
     have C2:=(hb1.cell (p:=⟨b,off+j*4+2,none⟩) hbl).trans q2
     have C3:=(hb1.cell (p:=⟨b,off+j*4+3,none⟩) hbl).trans q3
     have hcall:=IH ok ps[j] _ _ (RdT.below hb1 zn2 hr)
     have hLc:lj=cln d ps[j]:=by rw [hLj];unfold prt;rw [List.getElem?_eq_getElem hin]
     have i3:(j:Int) < (ps.length:Int):=by omega
     obtain ⟨a0,a1,a2,a3,_,_,_,_⟩:=id A0
     clear q0 q1 q2 q3 hr hbl hLj
     go_wp2_with (first
      | (go_at_call 37;refine hcall.mono ?_;rintro e w2 ⟨u,rfl,hRu,b2⟩;obtain ⟨ck,cn,cs,cps,hck⟩:=T.open (cln d ps[j]);rw [hck] at hRu;obtain ⟨csl,rfl,hcp⟩:=zaT.1 hRu;obtain ⟨ca,cc,rfl,_⟩:=hcp.form;have D0:=A0.keep b2;have D1:=A1.keep b2;have D2:=A2.keep b2;have DX:=hX.keep b2;have bw2:Below wr.heap.size wr w2:=bx.trans (b2.mono (by simp));have hb2:=hb1.trans (b2.mono hb1.size);obtain ⟨x0,x1,x2,x3,x4,x5,x6,x7⟩:=id DX;have EX:=DX.put (.int .i64 ck) (.int .i64 cn) (.string cs) (.slice ca cps.length cc);obtain ⟨y0,y1,y2,y3,y4,y5,y6,y7⟩:=id EX;have E2:=D2.farPut (X:=wr.heap.size) (by omega) (.int .i64 ck) (.int .i64 cn) (.string cs) (.slice ca cps.length cc);obtain ⟨z0,z1,z2,z3,z4,z5,z6,z7⟩:=id E2;have E0:=D0.farPut (X:=wr.heap.size) (by omega) (.int .i64 ck) (.int .i64 cn) (.string cs) (.slice ca cps.length cc);have E1:=D1.farPut (X:=wr.heap.size) (by omega) (.int .i64 ck) (.int .i64 cn) (.string cs) (.slice ca cps.length cc);have bw3:=zD bw2 zn2 (.int .i64 ck) (.int .i64 cn) (.string cs) (.slice ca cps.length cc);have hb3:=zD hb2 (X:=wr.heap.size) (by omega) (.int .i64 ck) (.int .i64 cn) (.string cs) (.slice ca cps.length cc);have hR3:RdT (fun b=>wr.heap.size+1<=b) (put4 w2 wr.heap.size (.int .i64 ck) (.int .i64 cn) (.string cs) (.slice ca cps.length cc)) (d+1) lj (.agg #[.int .i64 ck,.int .i64 cn,.string cs,.slice ca cps.length cc]):=(by rw [hLc,hck];exact RdT.keep (fun b hb _=>⟨by simpa using hb,zaf (by have:wr.heap.size+1<=b:=(by simpa using hb);omega) _ _ _ _⟩) hRu);obtain ⟨W3,hW3⟩:∃ W3,put4 w2 wr.heap.size (.int .i64 ck) (.int .i64 cn) (.string cs) (.slice ca cps.length cc)=W3:=⟨_,rfl⟩;rw [hW3] at y0 y1 y2 y3 y4 y5 y6 y7 z0 z1 z2 z3 z4 z5 z6 z7 E0 E1 E2 EX bw3 hb3 hR3;clear hcall a0 a1 a2 a3 C0 C1 C2 C3 D0 D1 D2 DX bw2 hb2 hRu hcp A0 A1 A2 AO hb1 hX bx b2;have hs5:w.heap.size+3<=W3.heap.size:=zn5 hs3 bw3.size;obtain ⟨qs,ho4,hql,hqr⟩:=hO.below (bw3.alloc bw3.size (.cells #[.int .i64 ck,.int .i64 cn,.string cs,.slice ca cps.length cc] 79));rw [hlen] at ho4;have hR4:=RdT.below ((Below.refl W3.heap.size W3).alloc zn2 (.cells #[.int .i64 ck,.int .i64 cn,.string cs,.slice ca cps.length cc] 79)) zn2 hR3;clear hO bw3 hR3)
      | (at_builtin;refine wpList_append_lies _ rfl _ _ _ rfl (w.heap.size+3) 79 i0 (.agg #[.int .i64 0,.int .i64 0,.string ⟨#[]⟩,.slice none 0 0]) 4 56 Tryz.underlying77 hi hz0 hz1 hz2 rfl (by omega) (.slice va j vc) j (za3 qs) rfl ho4 ⟨W3.heap.size,0,none⟩ 1 1 [.int .i64 ck,.int .i64 cn,.string cs,.slice ca cps.length cc] rfl rfl (zfk W3 _ _ _ _ _) (by simp [Value.oneCell']) (by omega) (by unfold maxLen;omega) (by omega) (by simp;omega) (W3.heap.size+1) (by simp) ?_;intro g gcap w5 hown5 hgr5 hat5 hlt5;have OO:=OwnN.snoc hlen ho4 hql hqr hown5 hgr5 (by simpa using hat5) hR4 (by omega) (fun x hx=>Nat.lt_succ_of_lt (hg0 x hx));rw [<- htk] at OO;have bel5:Below (w.heap.size+3) W3 w5:=(zn3.alloc hs5 _).grown hgr5 (by simp;omega) (fun k hk=>(World.ownsRow.lt ho4 k hk).1);have G0:=E0.keepB bel5 (by omega);have G1:=E1.keepB bel5 (by omega);have G2:=E2.keepB bel5 (by omega);have hb5:=hb3.trans (bel5.mono (by omega));obtain ⟨p0,p1,p2,p3,p4,p5,p6,p7⟩:=id G2;clear hown5 hgr5 hat5 hlt5 bel5 ho4 hqr hR4))
     go_roundw
     case rel=>exact ⟨j+1,by omega,by go_num,⟨_,G2.set3 _,OO.set (by omega) _⟩,G0.far (by omega) _,G1.far (by omega) _,hb5.setCell (by simp;omega) _⟩
     case measure=>simp [RowKit.intOf];omega
    ·
     have hLc:lj=zaM:=by rw [hLj];unfold prt;rw [List.getElem?_eq_none (by omega)]
     have i3:¬ (j:Int) < (ps.length:Int):=by omega
     obtain ⟨a0,a1,a2,a3,_,_,_,_⟩:=id A0
     obtain ⟨y0,y1,y2,y3,y4,y5,y6,y7⟩:=id hX
     obtain ⟨z0,z1,z2,z3,z4,z5,z6,z7⟩:=id A2
     have hs5:w.heap.size+3<=(wr.alloc (.cells #[.int .i64 0,.int .i64 0,.string ⟨#[]⟩,.slice none 0 0] 79)).heap.size:=zn5 hs3 bx.size
     obtain ⟨qs,ho4,hql,hqr⟩:=hO.below (bx.alloc bx.size (.cells #[.int .i64 0,.int .i64 0,.string ⟨#[]⟩,.slice none 0 0] 79))
     rw [hlen] at ho4
     have hR4:RdT (fun b=>wr.heap.size+1<=b) ((wr.alloc (.cells #[.int .i64 0,.int .i64 0,.string ⟨#[]⟩,.slice none 0 0] 79)).alloc (.cells #[.int .i64 0,.int .i64 0,.string ⟨#[]⟩,.slice none 0 0] 79)) (d+1) lj (.agg #[.int .i64 0,.int .i64 0,.string ⟨#[]⟩,.slice none 0 0]):=by rw [hLc];exact zbZ _ _
     have hnews:=zfk (wr.alloc (.cells #[.int .i64 0,.int .i64 0,.string ⟨#[]⟩,.slice none 0 0] 79)) (.int .i64 0) (.int .i64 0) (.string ⟨#[]⟩) (.slice none 0 0) 79
     rw [show (wr.alloc (.cells #[.int .i64 0,.int .i64 0,.string ⟨#[]⟩,.slice none 0 0] 79)).heap.size=wr.heap.size+1 by simp] at hnews
     clear hLj AO hX hO bx
     go_wp2_with (first
      | (at_builtin;refine wpList_append_lies _ rfl _ _ _ rfl (w.heap.size+3) 79 i0 (.agg #[.int .i64 0,.int .i64 0,.string ⟨#[]⟩,.slice none 0 0]) 4 56 Tryz.underlying77 hi hz0 hz1 hz2 rfl (by omega) (.slice va j vc) j (za3 qs) rfl ho4 ⟨wr.heap.size+1,0,none⟩ 1 1 [.int .i64 0,.int .i64 0,.string ⟨#[]⟩,.slice none 0 0] rfl rfl hnews (by simp [Value.oneCell']) (by omega) (by unfold maxLen;omega) (by omega) (by simp;omega) (wr.heap.size+1+1) (by simp) ?_;intro g gcap w5 hown5 hgr5 hat5 hlt5;have OO:=OwnN.snoc hlen ho4 hql hqr hown5 hgr5 (by simpa using hat5) hR4 (by omega) (fun x hx=>Nat.lt_succ_of_lt (hg0 x hx));rw [<- htk] at OO;have bel5:Below (w.heap.size+3) (wr.alloc (.cells #[.int .i64 0,.int .i64 0,.string ⟨#[]⟩,.slice none 0 0] 79)) w5:=(zn3.alloc hs5 _).grown hgr5 (by simp;omega) (fun k hk=>(World.ownsRow.lt ho4 k hk).1);have G0:=A0.keepB bel5 (by omega);have G1:=A1.keepB bel5 (by omega);have G2:=A2.keepB bel5 (by omega);have hb5:=hb1.trans (bel5.mono (by omega));obtain ⟨p0,p1,p2,p3,p4,p5,p6,p7⟩:=id G2;clear hown5 hgr5 hat5 hlt5 bel5 ho4 hqr hR4))
     go_roundw
     case rel=>exact ⟨j+1,by omega,by go_num,⟨_,G2.set3 _,OO.set (by omega) _⟩,G0.far (by omega) _,G1.far (by omega) _,hb5.setCell (by simp;omega) _⟩
     case measure=>simp [RowKit.intOf];omega
   ·have i1:¬ (j:Int) < 1:=by omega
    have hj2:j=1:=by omega
    rw [List.take_of_length_le (by omega)] at hO
    clear hln hlen
    subst hj2
    obtain ⟨z0,z1,z2,z3,z4,z5,z6,z7⟩:=id hB2
    obtain ⟨x0,x1,x2,x3,x4,x5,x6,x7⟩:=id hB1
    have E1:=hB1.put (.int .i64 4) (.int .i64 0) (.string ⟨#[]⟩) (.slice va 1 vc)
    obtain ⟨y0,y1,y2,y3,y4,y5,y6,y7⟩:=id E1
    have bq:Below w.heap.size w (put4 wr (w.heap.size+1) (.int .i64 4) (.int .i64 0) (.string ⟨#[]⟩) (.slice va 1 vc)):=zD hb (by omega) _ _ _ _
    have hO2:OwnN (put4 wr (w.heap.size+1) (.int .i64 4) (.int .i64 0) (.string ⟨#[]⟩) (.slice va 1 vc)) (w.heap.size+3) (.slice va 1 vc) LL:=hO.keep (fun b hb _=>zaf (by omega) _ _ _ _)
    clear hB0 hB1 hB2 hO E1
    go_wp2
    exact bodyPost_ret (v:=.agg #[.int .i64 4,.int .i64 0,.string ⟨#[]⟩,.slice va 1 vc]) (by simp [results,Tryz.results37,go_sem,y0,y1,y2,y3]) rfl ⟨_,rfl,⟨_,rfl,OwnN.base hO2.rd (by omega)⟩,bq⟩
 rw [if_neg k4]
 have e4:(k == 4)=false:=beq_eq_false_iff_ne.2 k4
 by_cases k5:k=5
 ·subst k5
  rw [if_pos rfl]
  obtain ⟨a,cap,rfl,hlc,hcm,hcell⟩:=hp.form
  have HC:Hid (∀ (i:Nat) (hi:i < ps.length),∃ b off c0 c1 c2 c3,a=some ⟨b,off,none⟩/\b < w.heap.size/\RdT ok w d ps[i] (.agg #[c0,c1,c2,c3])/\w.cell? ⟨b,off+i*4,none⟩=some c0/\w.cell? ⟨b,off+i*4+1,none⟩=some c1/\w.cell? ⟨b,off+i*4+2,none⟩=some c2/\w.cell? ⟨b,off+i*4+3,none⟩=some c3):=hcell
  have hLL:∃ LL:List (T (d+1)),LL=[prt ps 0,prt ps 1]:=⟨_,rfl⟩
  obtain ⟨LL,hLL⟩:=hLL
  have hLn:Hid (LL.length=2):=by rw [hLL];rfl
  have HL:Hid (∀ (j:Nat) (hj:j < LL.length),LL[j]=prt ps j):=fun j hj=>by
   subst hLL
   match j,hj with
   | 0,_=>rfl
   | 1,hj=>first|rfl|simp at hj
   | j+2,hj=>exact absurd hj (by simp)
  rw [<- hLL]
  clear hLL hcell
  go_enter Tryz.func37,Tryz.ntmps37
  go_wp2
  go_region
  go_wp2
  go_loopw [32] (fun c wr=>∃ j:Nat,j<=2/\c=.int .i64 (j:Int)/\(∃ sv,B4 wr (w.heap.size+2) (.int .i64 5) (.int .i64 0) (.string s) sv/\OwnN wr (w.heap.size+3) sv (LL.take j))/\B4 wr w.heap.size (.int .i64 5) (.int .i64 n) (.string s) (.slice a ps.length cap)/\B4 wr (w.heap.size+1) (.int .i64 0) (.int .i64 0) (.string ⟨#[]⟩) (.slice none 0 0)/\Below w.heap.size w wr) (fun c _=>2 - (RowKit.intOf c).toNat)
  case atStart=>
   refine ⟨0,by omega,rfl,⟨_,(B4.new _ _ _ _ _ _ _ (by simp)).keep (zn3.drew),zeC _ _⟩,?_,?_,(((zn3.alloc zn2 _).alloc (by simp) _).alloc (by simp;omega) _).drew⟩
   ·exact (((B4.new w _ _ _ _ 79 _ rfl).keep (zn3.alloc zn2 _)).keep (zn3.alloc zn2 _)).keep (zn3.drew)
   ·exact ((B4.new _ _ _ _ _ 79 _ (by simp)).keep (zn3.alloc zn2 _)).keep (zn3.drew)
  case round=>
   obtain ⟨j,hj,rfl,⟨sv,hB2,hO⟩,hB0,hB1,hb⟩:=hrel
   have hln:=hLn.out
   have hlen:(LL.take j).length=j:=by rw [List.length_take];omega
   obtain ⟨va,vc,hsv⟩:=hO.form
   rw [hlen] at hsv
   subst hsv
   have hs3:w.heap.size+3<=wr.heap.size:=by have:=hB2.lt;omega
   by_cases hlt:j < 2
   ·have i1:(j:Int) < 2:=by omega
    have i2:(0:Int)<=(j:Int):=by omega
    have hLj:=HL.out j (by omega)
    have htk:LL.take (j+1)=LL.take j++[LL[j]'(by omega)]:=List.take_succ_eq_append_getElem (by omega)
    obtain ⟨lj,hlj⟩:∃ lj,LL[j]'(by omega)=lj:=⟨_,rfl⟩
    rw [hlj] at hLj htk
    clear hlj
    clear hln
    have bx:=(Below.refl wr.heap.size wr).alloc zn2 (.cells #[.int .i64 0,.int .i64 0,.string ⟨#[]⟩,.slice none 0 0] 79)
    have hX:=B4.new wr (.int .i64 0) (.int .i64 0) (.string ⟨#[]⟩) (.slice none 0 0) 79 _ rfl
    have A0:=hB0.keep bx
    have A1:=hB1.keep bx
    have A2:=hB2.keep bx
    have AO:=hO.below bx
    have hb1:=hb.alloc hb.size (.cells #[.int .i64 0,.int .i64 0,.string ⟨#[]⟩,.slice none 0 0] 79)
    have hg0:∀ g,(Value.slice va j vc).ownBlock=some g->g < wr.heap.size:=fun g hg=>by obtain ⟨qs,ho,_⟩:=hO;exact (zC ho g hg).2
    by_cases hin:j < ps.length
    ·
     obtain ⟨b,off,c0,c1,c2,c3,rfl,hbl,hr,q0,q1,q2,q3⟩:=HC.out j hin
     have C0:=(hb1.cell (p:=⟨b,off+j*4,none⟩) hbl).trans q0
     have C1:=(hb1.cell (p:=⟨b,off+j*4+1,none⟩) hbl).trans q1
     have C2:=(hb1.cell (p:=⟨b,off+j*4+2,none⟩) hbl).trans q2
     have C3:=(hb1.cell (p:=⟨b,off+j*4+3,none⟩) hbl).trans q3
     have hcall:=IH ok ps[j] _ _ (RdT.below hb1 zn2 hr)
     have hLc:lj=cln d ps[j]:=by rw [hLj];unfold prt;rw [List.getElem?_eq_getElem hin]
     have i3:(j:Int) < (ps.length:Int):=by omega
     obtain ⟨a0,a1,a2,a3,_,_,_,_⟩:=id A0
     clear q0 q1 q2 q3 hr hbl hLj
     go_wp2_with (first
      | (go_at_call 37;refine hcall.mono ?_;rintro e w2 ⟨u,rfl,hRu,b2⟩;obtain ⟨ck,cn,cs,cps,hck⟩:=T.open (cln d ps[j]);rw [hck] at hRu;obtain ⟨csl,rfl,hcp⟩:=zaT.1 hRu;obtain ⟨ca,cc,rfl,_⟩:=hcp.form;have D0:=A0.keep b2;have D1:=A1.keep b2;have D2:=A2.keep b2;have DX:=hX.keep b2;have bw2:Below wr.heap.size wr w2:=bx.trans (b2.mono (by simp));have hb2:=hb1.trans (b2.mono hb1.size);obtain ⟨x0,x1,x2,x3,x4,x5,x6,x7⟩:=id DX;have EX:=DX.put (.int .i64 ck) (.int .i64 cn) (.string cs) (.slice ca cps.length cc);obtain ⟨y0,y1,y2,y3,y4,y5,y6,y7⟩:=id EX;have E2:=D2.farPut (X:=wr.heap.size) (by omega) (.int .i64 ck) (.int .i64 cn) (.string cs) (.slice ca cps.length cc);obtain ⟨z0,z1,z2,z3,z4,z5,z6,z7⟩:=id E2;have E0:=D0.farPut (X:=wr.heap.size) (by omega) (.int .i64 ck) (.int .i64 cn) (.string cs) (.slice ca cps.length cc);have E1:=D1.farPut (X:=wr.heap.size) (by omega) (.int .i64 ck) (.int .i64 cn) (.string cs) (.slice ca cps.length cc);have bw3:=zD bw2 zn2 (.int .i64 ck) (.int .i64 cn) (.string cs) (.slice ca cps.length cc);have hb3:=zD hb2 (X:=wr.heap.size) (by omega) (.int .i64 ck) (.int .i64 cn) (.string cs) (.slice ca cps.length cc);have hR3:RdT (fun b=>wr.heap.size+1<=b) (put4 w2 wr.heap.size (.int .i64 ck) (.int .i64 cn) (.string cs) (.slice ca cps.length cc)) (d+1) lj (.agg #[.int .i64 ck,.int .i64 cn,.string cs,.slice ca cps.length cc]):=(by rw [hLc,hck];exact RdT.keep (fun b hb _=>⟨by simpa using hb,zaf (by have:wr.heap.size+1<=b:=(by simpa using hb);omega) _ _ _ _⟩) hRu);obtain ⟨W3,hW3⟩:∃ W3,put4 w2 wr.heap.size (.int .i64 ck) (.int .i64 cn) (.string cs) (.slice ca cps.length cc)=W3:=⟨_,rfl⟩;rw [hW3] at y0 y1 y2 y3 y4 y5 y6 y7 z0 z1 z2 z3 z4 z5 z6 z7 E0 E1 E2 EX bw3 hb3 hR3;clear hcall a0 a1 a2 a3 C0 C1 C2 C3 D0 D1 D2 DX bw2 hb2 hRu hcp A0 A1 A2 AO hb1 hX bx b2;have hs5:w.heap.size+3<=W3.heap.size:=zn5 hs3 bw3.size;obtain ⟨qs,ho4,hql,hqr⟩:=hO.below (bw3.alloc bw3.size (.cells #[.int .i64 ck,.int .i64 cn,.string cs,.slice ca cps.length cc] 79));rw [hlen] at ho4;have hR4:=RdT.below ((Below.refl W3.heap.size W3).alloc zn2 (.cells #[.int .i64 ck,.int .i64 cn,.string cs,.slice ca cps.length cc] 79)) zn2 hR3;clear hO bw3 hR3)
      | (at_builtin;refine wpList_append_lies _ rfl _ _ _ rfl (w.heap.size+3) 79 i0 (.agg #[.int .i64 0,.int .i64 0,.string ⟨#[]⟩,.slice none 0 0]) 4 56 Tryz.underlying77 hi hz0 hz1 hz2 rfl (by omega) (.slice va j vc) j (za3 qs) rfl ho4 ⟨W3.heap.size,0,none⟩ 1 1 [.int .i64 ck,.int .i64 cn,.string cs,.slice ca cps.length cc] rfl rfl (zfk W3 _ _ _ _ _) (by simp [Value.oneCell']) (by omega) (by unfold maxLen;omega) (by omega) (by simp;omega) (W3.heap.size+1) (by simp) ?_;intro g gcap w5 hown5 hgr5 hat5 hlt5;have OO:=OwnN.snoc hlen ho4 hql hqr hown5 hgr5 (by simpa using hat5) hR4 (by omega) (fun x hx=>Nat.lt_succ_of_lt (hg0 x hx));rw [<- htk] at OO;have bel5:Below (w.heap.size+3) W3 w5:=(zn3.alloc hs5 _).grown hgr5 (by simp;omega) (fun k hk=>(World.ownsRow.lt ho4 k hk).1);have G0:=E0.keepB bel5 (by omega);have G1:=E1.keepB bel5 (by omega);have G2:=E2.keepB bel5 (by omega);have hb5:=hb3.trans (bel5.mono (by omega));obtain ⟨p0,p1,p2,p3,p4,p5,p6,p7⟩:=id G2;clear hown5 hgr5 hat5 hlt5 bel5 ho4 hqr hR4))
     go_roundw
     case rel=>exact ⟨j+1,by omega,by go_num,⟨_,G2.set3 _,OO.set (by omega) _⟩,G0.far (by omega) _,G1.far (by omega) _,hb5.setCell (by simp;omega) _⟩
     case measure=>simp [RowKit.intOf];omega
    ·
     have hLc:lj=zaM:=by rw [hLj];unfold prt;rw [List.getElem?_eq_none (by omega)]
     have i3:¬ (j:Int) < (ps.length:Int):=by omega
     obtain ⟨a0,a1,a2,a3,_,_,_,_⟩:=id A0
     obtain ⟨y0,y1,y2,y3,y4,y5,y6,y7⟩:=id hX
     obtain ⟨z0,z1,z2,z3,z4,z5,z6,z7⟩:=id A2
     have hs5:w.heap.size+3<=(wr.alloc (.cells #[.int .i64 0,.int .i64 0,.string ⟨#[]⟩,.slice none 0 0] 79)).heap.size:=zn5 hs3 bx.size
     obtain ⟨qs,ho4,hql,hqr⟩:=hO.below (bx.alloc bx.size (.cells #[.int .i64 0,.int .i64 0,.string ⟨#[]⟩,.slice none 0 0] 79))
     rw [hlen] at ho4
     have hR4:RdT (fun b=>wr.heap.size+1<=b) ((wr.alloc (.cells #[.int .i64 0,.int .i64 0,.string ⟨#[]⟩,.slice none 0 0] 79)).alloc (.cells #[.int .i64 0,.int .i64 0,.string ⟨#[]⟩,.slice none 0 0] 79)) (d+1) lj (.agg #[.int .i64 0,.int .i64 0,.string ⟨#[]⟩,.slice none 0 0]):=by rw [hLc];exact zbZ _ _
     have hnews:=zfk (wr.alloc (.cells #[.int .i64 0,.int .i64 0,.string ⟨#[]⟩,.slice none 0 0] 79)) (.int .i64 0) (.int .i64 0) (.string ⟨#[]⟩) (.slice none 0 0) 79
     rw [show (wr.alloc (.cells #[.int .i64 0,.int .i64 0,.string ⟨#[]⟩,.slice none 0 0] 79)).heap.size=wr.heap.size+1 by simp] at hnews
     clear hLj AO hX hO bx
     go_wp2_with (first
      | (at_builtin;refine wpList_append_lies _ rfl _ _ _ rfl (w.heap.size+3) 79 i0 (.agg #[.int .i64 0,.int .i64 0,.string ⟨#[]⟩,.slice none 0 0]) 4 56 Tryz.underlying77 hi hz0 hz1 hz2 rfl (by omega) (.slice va j vc) j (za3 qs) rfl ho4 ⟨wr.heap.size+1,0,none⟩ 1 1 [.int .i64 0,.int .i64 0,.string ⟨#[]⟩,.slice none 0 0] rfl rfl hnews (by simp [Value.oneCell']) (by omega) (by unfold maxLen;omega) (by omega) (by simp;omega) (wr.heap.size+1+1) (by simp) ?_;intro g gcap w5 hown5 hgr5 hat5 hlt5;have OO:=OwnN.snoc hlen ho4 hql hqr hown5 hgr5 (by simpa using hat5) hR4 (by omega) (fun x hx=>Nat.lt_succ_of_lt (hg0 x hx));rw [<- htk] at OO;have bel5:Below (w.heap.size+3) (wr.alloc (.cells #[.int .i64 0,.int .i64 0,.string ⟨#[]⟩,.slice none 0 0] 79)) w5:=(zn3.alloc hs5 _).grown hgr5 (by simp;omega) (fun k hk=>(World.ownsRow.lt ho4 k hk).1);have G0:=A0.keepB bel5 (by omega);have G1:=A1.keepB bel5 (by omega);have G2:=A2.keepB bel5 (by omega);have hb5:=hb1.trans (bel5.mono (by omega));obtain ⟨p0,p1,p2,p3,p4,p5,p6,p7⟩:=id G2;clear hown5 hgr5 hat5 hlt5 bel5 ho4 hqr hR4))
     go_roundw
     case rel=>exact ⟨j+1,by omega,by go_num,⟨_,G2.set3 _,OO.set (by omega) _⟩,G0.far (by omega) _,G1.far (by omega) _,hb5.setCell (by simp;omega) _⟩
     case measure=>simp [RowKit.intOf];omega
   ·have i1:¬ (j:Int) < 2:=by omega
    have hj2:j=2:=by omega
    rw [List.take_of_length_le (by omega)] at hO
    clear hln hlen
    subst hj2
    obtain ⟨z0,z1,z2,z3,z4,z5,z6,z7⟩:=id hB2
    obtain ⟨x0,x1,x2,x3,x4,x5,x6,x7⟩:=id hB1
    have E1:=hB1.put (.int .i64 5) (.int .i64 0) (.string s) (.slice va 2 vc)
    obtain ⟨y0,y1,y2,y3,y4,y5,y6,y7⟩:=id E1
    have bq:Below w.heap.size w (put4 wr (w.heap.size+1) (.int .i64 5) (.int .i64 0) (.string s) (.slice va 2 vc)):=zD hb (by omega) _ _ _ _
    have hO2:OwnN (put4 wr (w.heap.size+1) (.int .i64 5) (.int .i64 0) (.string s) (.slice va 2 vc)) (w.heap.size+3) (.slice va 2 vc) LL:=hO.keep (fun b hb _=>zaf (by omega) _ _ _ _)
    clear hB0 hB1 hB2 hO E1
    go_wp2
    exact bodyPost_ret (v:=.agg #[.int .i64 5,.int .i64 0,.string s,.slice va 2 vc]) (by simp [results,Tryz.results37,go_sem,y0,y1,y2,y3]) rfl ⟨_,rfl,⟨_,rfl,OwnN.base hO2.rd (by omega)⟩,bq⟩
 rw [if_neg k5]
 have e5:(k == 5)=false:=beq_eq_false_iff_ne.2 k5
 clear hp h
 go_enter Tryz.func37,Tryz.ntmps37
 go_wp2
 refine wp_loop_rounds 1 ?_
 rw [rounds_succ]
 go_wp2
 exact bodyPost_ret (v:=.agg #[.int .i64 0,.int .i64 0,.string ⟨#[]⟩,.slice none 0 0]) (by simp [results,Tryz.results37,go_sem]) rfl ⟨_,rfl,zbZ _ _,((zn3.alloc zn2 _).alloc (by simp) _).alloc (by simp;omega) _⟩
theorem ze2:∀ (d:Nat),zhM d
 | 0=>fun _ t=>Empty.elim t
 | d+1=>zg5 d (ze2 d)
